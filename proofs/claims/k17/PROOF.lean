import PyProof.Rows.All
import Wide.All
import OpenK.AllK
import Wide.FinOn
import HandS.ForMost
import HandS.Wide
import HandS.IsInst
import HandS.Style
import HandS.Defaults
import HandS.Walk
import HandS.Zip
import HandS.ExcOwn
import HandS.ExcField
import HandS.ExcIs
import HandS.ExcInit
import HandS.WordsExc
import HandS.Exc
import HandS.CallSlots
import KE.KExcSuper
import KE.KExcLine
import KE.RegKSuper
import KE.GoesEnum
import HandS.More
import HandS.Deep
import HandS.Small
import HandS.Conv
import HandS.TupLen
import HandS.Small
import PySem.Challenge.RW_causehall_k17_alike_histories
set_option Elab.async false
set_option linter.all false
set_option maxRecDepth 100000
set_option maxHeartbeats 4000000
namespace CH
open PySem PySem.Spec PyProof.Rows PySem.W PySem.Calls
/-! ### own exceptions whose __init__ says super().__init__('..') and keeps one field -/
abbrev veT : List Value := [.type "ValueError", .type "Exception", .type "BaseException", .type "object"]
abbrev leT : List Value := [.type "LookupError", .type "Exception", .type "BaseException", .type "object"]
/-- the program's file and top -/
class PF (P : Program) : Prop where
  file : (P.main.file : Str) = Str.ofString "/claim/cut.py"
  top : (P.main.scope.names.lookup ("super" : Str)).isSome = false
abbrev initBody (txt f : Str) (p0 p1 p2 p3 p4 p5 p6 p7 p8 p9 : Pos) (j : Nat) : List Stmt :=
  [.Expr (.Call (.Attribute (.Call (.Name "super" p0) [] [] p1) "__init__" p2) [.Constant (.str txt) j p3] [] p4) p5, .Assign [.Attribute (.Name "self" p6) f p7] (.Name f p8) p9]
abbrev initScope (f : Str) : Scope := { kind := .function, names := [(Str.ofString "self", .local), (f, .local), (Str.ofString "__class__", .free), (Str.ofString "super", .globalImplicit)], isGenerator := false, isCoroutine := false, more := [] }
/-- what super().__init__('..') is, line by line -/
def SupEv (txt : Str) (p0 p1 p2 p3 p4 : Pos) (j : Nat) : Prop := ∃ pl : Env → Sem Bool, ∀ env : Env, eval (.Call (.Attribute (.Call (.Name "super" p0) [] [] p1) "__init__" p2) [.Constant (.str txt) j p3] [] p4) env = (do
  let ov ← attributeBase (.Call (.Name "super" p0) [] [] p1) "__init__" env (eval (.Call (.Name "super" p0) [] [] p1) env)
  standAt p2.atName
  let (f, first) ← holding [ov] (getMethod ov "__init__" (pl env))
  callWith p4 f first (backTo p4 (starEach [.Constant (.str txt) j p3] env)) [])
/-- the function at fI is such an __init__ of the class at C -/
structure OexF (K : Frag) (C fI : Addr) (f : Str) : Prop where
  ex : ∃ (oc : Value) (od an : Option Addr) (osl : Array (Option Value)) (q : Str) (params : Arguments) (scope : Scope) (dV kV doc pm ct : Value) (cc cda : Addr) (txt : Str) (p0 p1 p2 p3 p4 p5 p6 p7 p8 p9 : Pos) (j : Nat) (ccl cl : Value) (cdd cld : Option Addr) (ccs csl : Array (Option Value)) (vs : Array Value) (tf : Tok) (ar : Arg),
    K.lookup fI = some ⟨oc, od, .func (ksFn "__init__" q params (initBody txt f p0 p1 p2 p3 p4 p5 p6 p7 p8 p9 j) scope dV kV doc pm an (.ref cda) ct cc), osl⟩ ∧
    codeIn K (.ref cda) q = true ∧ K.lookup cda = some ⟨ccl, cdd, .fields vs, ccs⟩ ∧ vs[2]? = some (.str (Str.ofString "/claim/cut.py") tf) ∧ K.lookup cc = some ⟨cl, cld, .cell (some (.ref C)), csl⟩ ∧
    (∀ s : Shared, ∀ a b : Value, BindsTo s (ksFn "__init__" q params (initBody txt f p0 p1 p2 p3 p4 p5 p6 p7 p8 p9 j) scope dV kV doc pm an (.ref cda) ct cc) ⟨[a, b], []⟩ [("self", a), (f, b)]) ∧
    (∀ s : Shared, ∀ a b : Value, BindsTo s (ksFn "__init__" q params (initBody txt f p0 p1 p2 p3 p4 p5 p6 p7 p8 p9 j) scope dV kV doc pm an (.ref cda) ct cc) ⟨[a], [(f, b)]⟩ [("self", a), (f, b)]) ∧
    SupEv txt p0 p1 p2 p3 p4 j ∧ (params.posonlyargs ++ params.args).head? = some ar ∧ ar.arg = Str.ofString "self" ∧ scope = initScope f ∧
    (f == Str.ofString "self") = false ∧ (f == Str.ofString "__debug__") = false ∧ (Str.ofString "self" == f) = false ∧ (Str.ofString "__class__" == f) = false ∧ (Str.ofString "super" == f) = false
/-- an own exception class at C, its __init__ at fI, its field f -/
structure OexS (K : Frag) (C fI : Addr) (B newId initId : String) (bmB : List Value) (f : Str) : Prop where
  base : ExcBaseFacts B newId initId bmB
  wrap : KxsFacts B initId
  stor : StoreFacts B bmB "object.__setattr__" "object"
  ini : excInitIn K C bmB newId = true
  over : excOver K C bmB = true
  hd : hasDictIn K C = true
  sa : findIn K (.ref C) "__setattr__" = some (some (.builtin "object.__setattr__"))
  nf : findIn K (.ref C) f = some none
  exC : subIn K (.ref C) (.type "BaseException") = some true
  sB : subIn K (.ref C) (.type B) = some true
  sC : mroIn K C (.ref C) = some true
  tyC : typeIn K (.ref C) = some (.type "type")
  kC : keepIn K (.ref C) = true
  ii : findIn K (.ref C) "__init__" = some (some (.ref fI))
  ti : typeIn K (.ref fI) = some (.type "function")
  sup : ks_superIn K C C "__init__" = some (some (.builtin initId))
  opq : nsIn K cStatics "thirdparty.any" = some none
  fn : OexF K C fI f
theorem cls_obj {K : Frag} {C : Addr} {q : Bool} (h : hasDictIn K C = true) : ∃ cd od dd sl, K.lookup C = some ⟨od, dd, .cls cd, sl⟩ ∧ clsIn K C = some cd := by
  obtain ⟨cd, hc, _⟩ := any_some h
  have hc' := hc
  unfold clsIn at hc'
  split at hc'
  · rename_i c d cd' sl ho
    cases hc'
    exact ⟨cd, c, d, sl, ho, hc⟩
  · cases hc'
section
variable {P : Program} {w : World} {A : Around} {R : Result → Shared → Prop} {h : Heap} {g : Array GenState} {d : Drawn} {t : Nat} {os : OsState} {K : Frag} {C fI e t0 : Addr} {B newId initId : String} {bmB : List Value} {f : Str} {u : Value} {mg mb : Str → Option Value} {args : Args}
theorem ns1_one {h : Heap} {dx : Addr} {f : Str} {u : Value} {hs : Int} {tk : Tok} {n : Nat} (e : h.get? dx = some (dictOf [⟨hs, .str f tk, u⟩] n)) : h.Ns1 dx (fun y => if y = f then some u else none) := by
  refine ⟨_, _, _, e, rfl, ?_, ?_, fun y => ?_⟩
  · intro z hz
    simp at hz
    subst hz
    exact ⟨f, tk, rfl⟩
  · exact List.pairwise_singleton ..
  · by_cases hy : y = f
    · subst hy
      simp [nsFind, findBy, Value.isStr]
    · have hy' : (f == y) = false := by simpa using fun z => hy z.symm
      simp [nsFind, findBy, Value.isStr, hy, hy']
theorem einit_run (hP : PF P) (T : OexS K C fI B newId initId bmB f) (X : K.In h) (hKe : K.lookup e = none) (hg : h.Ns mainGlobals mg) (hs : mg "super" = none) (hb : h.Ns builtinsNs mb) (hbs : mb "super" = some (.type "super")) (hlim : h.NoLimit) (hroom : A.depth < recursionLimit)
    (hge : mainGlobals ≠ e) (hbe : builtinsNs ≠ e) (he : h.get? e = some (excObj C t0 none .none)) (ha : args = ⟨[.ref e, u], []⟩ ∨ args = ⟨[.ref e], [(f, u)]⟩)
    (hq : ∀ h' t1 dx tk', (∀ b o, b ≠ e → h.get? b = some o → h'.get? b = some o) → h.objs.size ≤ dx → h'.get? e = some (excObj C t1 (some dx) .none) →
      h'.Ns1 dx (fun y => if y = f then some u else none) → R (.ok (.ret .none)) ⟨h', g, d, tk', os⟩) :
    codeAny (model P w) A (.call (.ref fI) args) R ⟨h, g, d, t, os⟩ := by
  obtain ⟨oc, od, an, osl, q, params, scope, dV, kV, doc, pm, ct, cc, cda, txt, p0, p1, p2, p3, p4, p5, p6, p7, p8, p9, j, ccl, cl, cdd, cld, ccs, csl, vs, tf, ar, lf, hcd, lcode, hvs, lcell, hb1, hb2, ⟨pl, hev⟩, hpar, har, rfl, n1, n2, n3, n4, n5⟩ := T.fn.ex
  obtain ⟨cdC, ocC, odC, slC, lC, hcC⟩ := cls_obj (q := true) T.hd
  have hbind : BindsTo ⟨h, g, d, t, os⟩ (ksFn "__init__" q params (initBody txt f p0 p1 p2 p3 p4 p5 p6 p7 p8 p9 j) (initScope f) dV kV doc pm an (.ref cda) ct cc) args [("self", .ref e), (f, u)] := by
    rcases ha with rfl | rfl
    · exact hb1 _ _ _
    · exact hb2 _ _ _
  have kf : List.lookup f [(Str.ofString "self", NameKind.local), (f, .local), (Str.ofString "__class__", .free), (Str.ofString "super", .globalImplicit)] = some .local := by
    simp [List.lookup, n1]
  have XX : K.In (hideAll h [e]) := fun a o z => hideAll_get _ (X a o z) (by
    intro y
    rw [List.mem_singleton.mp y, hKe] at z
    cases z)
  refine ks_codeAny_call_defAt hroom (X _ _ lf) rfl hlim (codeRec_of X hcd) rfl hbind ?_ ?_ (fun h₀ hns k0 => ?_)
  · intro x hx
    simp at hx
    rcases hx with rfl | rfl | rfl | rfl <;> simp
  · intro x hx
    simp at hx
    rcases hx with rfl | rfl
    · rfl
    · exact kf
  have F0 : Fr (hideAll h [e]) h.objs.size h₀ (fun x => [((f : Str), u), (Str.ofString "self", .ref e)].lookup x) := ⟨hns, fun b o z => k0 b o (of_hideAll _ z), Nat.le_of_eq (hideAll_size _ _)⟩
  have N0 : News (hideAll h [e]) h.objs.size h₀ [(e, excObj C t0 none .none)] := fun p hp => by
    rw [List.mem_singleton.mp hp]
    exact ⟨k0 _ _ he, Nat.ne_of_lt (Heap.lt_size he), hideAll_none _ (by simp)⟩
  have hself : (fun x => [((f : Str), u), (Str.ofString "self", Value.ref e)].lookup x) "self" = some (.ref e) := by
    show List.lookup (Str.ofString "self") _ = _
    simp [List.lookup, n3]
  have hfound : (fun x => [((f : Str), u), (Str.ofString "self", Value.ref e)].lookup x) f = some u := by simp [List.lookup]
  have X0 : K.In h₀ := X.keeps k0
  have ksu : (initScope f).names.lookup (Str.ofString "super") = some .globalImplicit := by
    show List.lookup (Str.ofString "super") [_, _, _, _] = _
    simp [List.lookup, n5, show (Str.ofString "super" == Str.ofString "self") = false by decide +kernel, show (Str.ofString "super" == Str.ofString "__class__") = false by decide +kernel]
  have kcl : (initScope f).names.lookup (Str.ofString "__class__") = some .free := by
    show List.lookup (Str.ofString "__class__") [_, _, _, _] = _
    simp [List.lookup, n4, show (Str.ofString "__class__" == Str.ofString "self") = false by decide +kernel]
  have kse : (initScope f).names.lookup (Str.ofString "self") = some .local := by rfl
  show _root_.PySem.wpAt (model P w) (A.deeper (ksEnv q (initScope f) h.objs.size fI (.ref cda) cc)) (.func (initBody txt f p0 p1 p2 p3 p4 p5 p6 p7 p8 p9 j) (ksEnv q (initScope f) h.objs.size fI (.ref cda) cc)) (execs (initBody txt f p0 p1 p2 p3 p4 p5 p6 p7 p8 p9 j) (ksEnv q (initScope f) h.objs.size fI (.ref cda) cc)) _ _ _
  -- super()
  refine ks_wpAt_execs_cons (ks_wpAt_Expr_any ?_)
  refine ks_wpAt_MethodCall (pl := pl (ksEnv q (initScope f) h.objs.size fI (.ref cda) cc)) ?_ (hev _)
  refine ks_wpAt_super_base (f := fI) ksu kcl (by decide) rfl (X0 _ _ lf) rfl hpar rfl (X0 _ _ lcode) rfl hvs (by rw [hP.file]; exact beq_self_eq_true _) hP.top ?_
  refine ks_loadName_global rfl ksu (loadGlobal_builtin (env := ksEnv q (initScope f) h.objs.size fI (.ref cda) cc) (hg.keeps k0) hs (hb.keeps k0) hbs ⟨rfl, ?_⟩)
  refine wpAny_loadName_free rfl kcl rfl ⟨_, X0 _ _ lcell, rfl⟩ ?_
  refine wpAny_loadName_local rfl (by rw [har]; exact kse) hns (by rw [har]; exact hself) ?_
  refine ks_wpAny_isType_cls (X0 _ _ lC) rfl ⟨rfl, ?_⟩
  refine ks_wpAny_call_super (X0 _ _ lC) rfl (k0 _ _ he) rfl (fun c z => by cases z) (looks_mroIn X0 T.sC) (fun h1 e1 k1 => ?_)
  obtain ⟨F1, N1, l1⟩ := ks_newsPush (s := ⟨h₀, g, d, 0, os⟩) (o := ks_superObj C e C) F0 N0 rfl e1 k1
  replace F1 : Fr (hideAll h [e]) h.objs.size h1 _ := F1
  refine kxs_method (odx := none) T.wrap F1 XX N1 (List.mem_cons_self ..) ⟨k1 _ _ (k0 _ _ he), rfl, rfl, trivial⟩ T.opq T.sup T.sB (by decide) (fun q2 h2 F2 N2 l2 => ?_)
  refine kxs_callWith1 N2 (List.mem_cons_self ..) ?_
  refine spliced_cons (Constant_str (k := j) (pos := p3) ?_)
  refine spliced_nil ⟨kxs_at N2 (List.mem_cons_self ..), ?_⟩
  refine kxs_call F2 XX N2 T.base T.ini (List.mem_cons_self ..) (.tail ?u1 (.tail ?u2 (.head ?u3))) (by rw [sizeLine_eq]; exact (by decide : 1 ≤ 16777216)) (fun t3 h3 F3 N3 l3 => ?_)
  case u1 => exact Nat.ne_of_gt (l2 _ (List.mem_cons_of_mem _ (List.mem_cons_self ..)))
  case u2 => exact Nat.ne_of_gt (l1 _ (List.mem_cons_self ..))
  case u3 => intro p hp; cases hp
  -- self.f = f
  refine ks_wpAt_execs_cons (ks_wpAt_Assign_Attr ?_)
  refine wpAt_of_wpAny (wpAny_Name (wpAny_loadName_local rfl kf F3.ns hfound ?_) n2)
  refine wpAny_Name (wpAny_loadName_local rfl kse F3.ns hself ?_)
  refine set_exc0 (es' := [⟨_, .str f _, u⟩]) (n' := 1) T.stor F3 XX N3 (.tail _ (.tail _ (.tail _ (.head _)))) T.sa T.over (by unfold takerIn; rw [T.nf]; rfl) T.hd rfl (.tail ?u1 (.tail ?u2 (.tail ?u3 (.head ?u4)))) (by exact (by decide : 1 ≤ 1000)) (fun dx h4 F4 N4 l4 => ?_)
  case u1 => exact Nat.ne_of_gt (l3 _ (.tail _ (.tail _ (.head _))))
  case u2 => exact Nat.ne_of_gt (l2 _ (List.mem_cons_of_mem _ (List.mem_cons_self ..)))
  case u3 => exact Nat.ne_of_gt (l1 _ (List.mem_cons_self ..))
  case u4 => intro p hp; cases hp
  refine wpAt_of_wpAny (wpAny_execs_nil ?_)
  refine hq h4 t3 dx _ (fun b o hb z => F4.keep b o (hideAll_get _ z (by simpa using hb))) ?_ (N4 _ (List.mem_of_getElem? (i := 4) rfl)).1 (ns1_one (N4 _ (List.mem_cons_self ..)).1)
  exact Nat.le_of_lt (Nat.lt_of_lt_of_le hns.lt (Nat.le_of_lt (l4 _ (List.mem_of_getElem? (i := 2) rfl))))
end

/-! ### such an exception, made for a raise -/
section
open L2
variable {X : Cx} {x f : Str} {e : Expr} {te : TE} {p pos : Pos} {C fI : Addr} {B newId initId : String} {bmB : List Value}
theorem K_new {X : Cx} {pins : List (Addr × Obj)} {σ : L2.St} {H : Hp} {s : Shared} {a : Addr} (I : Inv X pins σ H s) (h : s.heap.objs.size ≤ a) : X.K.lookup a = none := by
  cases z : X.K.lookup a with
  | none => rfl
  | some o => exact absurd (Nat.lt_of_lt_of_le (Heap.lt_size (I.kIn _ _ z)) h) (Nat.lt_irrefl _)
theorem exs_made (hP : PF X.prog) (T : OexS X.K C fI B newId initId bmB f) (hs : X.mg "super" = none) (hr : Room 2 X.A) {pins : List (Addr × Obj)} {σ : L2.St} {H1 : Hp} {s1 : Shared} {u : Value} {v : V} {Q : XK} (I1 : Inv X pins σ H1 s1) (r1 : RelV v u)
    (q : ∀ d, H1 d = none → Q (.ref C) (some d) (upd H1 d (.xd [(f, v)]))) : wpAny (model X.prog X.w) X.A (call (.ref C) [u]) (MkP X pins σ Q) X.xe s1 := by
  obtain ⟨nm, N, qn, bs, bm, hdct, sn, sub, ab, col, dd, k0, k1, k2, k3, k5, hC, hT⟩ := excInit_of I1.kIn T.ini
  obtain ⟨hp, g, dr, tk, os⟩ := s1
  have kk : ∀ b o, hp.get? b = some o → ((hp.push (kdv_tup [u])).push (HandSPX.excO C hp.objs.size)).get? b = some o := fun b o e => Heap.get?_push_of_some _ (Heap.get?_push_of_some _ e)
  have hget : ((hp.push (kdv_tup [u])).push (HandSPX.excO C hp.objs.size)).get? (hp.objs.size + 1) = some (excObj C hp.objs.size none .none) := by heap_get
  have hsz : ((hp.push (kdv_tup [u])).push (HandSPX.excO C hp.objs.size)).objs.size = hp.objs.size + 2 := by rw [Heap.size_push, Heap.size_push]
  obtain ⟨mb, b1, b2⟩ := I1.mod.blt
  have l1 : ([u] : List Value).length ≤ sizeLine := by
    rw [sizeLine_eq]
    exact (by decide : 1 ≤ 16777216)
  refine wpAny_call (HandSPX.call_own T.base hT hC (looks_findIn I1.kIn T.ii) (fun self => bind_fn I1.kIn self T.ti) l1 ?_)
  refine einit_run hP T (I1.kIn.keeps kk) (K_new I1 (Nat.le_succ _)) ((I1.mod.glob.keeps I1.bk).keeps kk) hs ((b1.keeps I1.bk).keeps kk) (b2 "super" (by decide)) (I1.nolimit.keeps kk) (hr.make C [u] []).depth ?_ ?_ hget (.inl rfl) ?_
  · exact fun z => absurd (Heap.Ns.lt (I1.mod.glob.keeps I1.bk)) (by rw [z]; exact Nat.not_lt_of_le (Nat.le_succ _))
  · exact fun z => absurd (Heap.Ns.lt (b1.keeps I1.bk)) (by rw [z]; exact Nat.not_lt_of_le (Nat.le_succ _))
  intro h' t1 dx tk' k hdx hx hns
  rw [hsz] at hdx
  obtain ⟨G, g1, g2⟩ := restrict h' fun b => decide (b ≠ hp.objs.size + 1)
  have ge : G.get? (hp.objs.size + 1) = none := g2 _ (by simp)
  have gk : ∀ b, b ≠ hp.objs.size + 1 → G.get? b = h'.get? b := fun b hb => g1 b (decide_eq_true hb)
  have nold : ∀ {b : Addr} {o : Obj}, hp.get? b = some o → b ≠ hp.objs.size + 1 := fun {b o} z => Nat.ne_of_lt (Nat.lt_succ_of_lt (Heap.lt_size z))
  have hd : dx ≠ hp.objs.size + 1 := Nat.ne_of_gt (Nat.lt_of_lt_of_le (Nat.lt_succ_self _) hdx)
  have na : H1 (hp.objs.size + 1) = none := I1.hok.fresh (Nat.le_succ _)
  have nd : H1 dx = none := I1.hok.fresh (Nat.le_trans (Nat.le_add_right _ 2) hdx)
  refine ⟨rfl, hp.objs.size + 1, _, _, ⟨G, g, dr, tk', os⟩, upd H1 dx (.xd [(f, v)]), .ref C, some dx, rfl, ?_, ?_, ge, hx, ⟨rfl, rfl⟩, rfl, rfl, ?_, rfl, I1.bare, raises_own T.exC T.tyC, q dx nd⟩
  · refine I1.laid (t' := tk') (h' := G) (fun b o z => ?_) (Nat.le_trans (Nat.le_add_right _ 2) hdx) ⟨_, hns.at fun o z => (gk dx hd).trans z, relO_put (fs := []) r1 fun _ => True.intro⟩
    exact (gk b (nold z)).trans (k b o (nold z) (kk b o z))
  · intro b o z
    by_cases hb : b = hp.objs.size + 1
    · rw [hb, ge] at z
      cases z
    · exact (gk b hb).symm.trans z
  · rw [upd_ne hd.symm]
    exact na
/-- raise C(e): the exception has a new dict with its field -/
theorem pmk_exs (hP : PF X.prog) (T : OexS X.K C fI B newId initId bmB f) (hs : X.mg "super" = none) (hr : Room 2 X.A) (hg : Gl X x) (gC : X.mg x = some (.ref C)) (he : PE X e te) (hdb : (x == ("__debug__" : Str)) = false := by decide)
    (hse : starEach [e] X.env = (false, eval e X.env) :: starEach [] X.env := by rfl) : PMk X (.Call (.Name x p) [e] [] pos) (fun σ H Q => te σ H fun v H1 => ∀ d, H1 d = none → Q (.ref C) (some d) (upd H1 d (.xd [(f, v)]))) := by
  intro pins s σ H Q I h
  refine wpAny_Call_Name_kw (ld_glob I hg gC ?_ hdb)
  refine callWith_K (h₀ := X.base) I.ok.mod.kin T.kC ?_ hse (by rfl)
  rw [hse]
  show wpAny _ _ (spliced ((false, eval e X.env) :: backTo pos (starEach [] X.env))) _ _ s
  refine spliced_cons (thn (he.run pins s σ H _ I h) fun u s1 ⟨v, H1, I1, r1, q1⟩ => ?_)
  exact spliced_nil ⟨I1.kIn, exs_made hP T hs hr I1 r1 q1⟩
end

end CH
/-! ### isinstance of a caught exception that has a dict; its fields; several clauses, tuples of classes -/
namespace CH
open PySem PySem.Spec PyProof.Rows PySem.W PySem.Calls
section
variable {prog : Program} {w : World} {A : Around} {E : Value → Shared → Prop} {s : Shared} {K : Frag} {x D : Addr} {ox : Obj} {od : Option Obj}
/-- a data descriptor of the class goes ahead of what the dict has -/
theorem found_data {C : Addr} {nm : Str} {a1 g1 : Value} (c1 : (clsIn K C).isSome = true) (c2 : findIn K (.ref C) nm = some (some a1)) (c3 : specialIn K a1 "__get__" = some (some g1)) (c4 : takesIn K a1 = some true) : findObj K C od nm = some (.bind g1 a1) := by
  rcases Option.isSome_iff_exists.mp c1 with ⟨cd, c1⟩
  show ((clsIn K C).bind _) = _
  rw [c1]
  simp only [Option.bind_some, c2, c3, c4]
theorem exc_class (T : L2.ExcC K D) {Q : Option Value → Shared → Prop} (X : K.In s.heap) (I : PySem.W.InstAt s.heap x ox D od) (q : Q (some (.ref D)) { s with toks := s.toks + 1 }) : wpAny (model prog w) A (getAttr? (.ref x) "__class__") Q E s := by
  have fnd : findObj K D od "__class__" = some (.bind (.builtin "getset_descriptor.__get__") (.builtin "object.__class__")) := found_data (by obtain ⟨c, e, _⟩ := any_some T.hd; rw [e]; rfl) T.ha T.hn T.ht
  obtain ⟨h0, g0, d0, t0, o0⟩ := s
  have ty := I.type (M := model prog w)
  have nx : (Value.builtin "BaseException.__getattribute__" == Value.builtin "object.__getattribute__") = false := by decide +kernel
  have k1 : (onTheHeap (Value.ref D) && Value.builtin "BaseException.__getattribute__" == Value.builtin "object.__getattribute__") = false := by simp only [nx, Bool.and_false]
  unfold getAttr? getAttrBy? getAttrBy
  refine wpAny_bind (wpAny_mkText (wpAny_bind (wpAny_attempt (wpAny_holding (wpAny_bind (ty.at (wpAny_bind ((looks_findIn (M := model prog w) X T.hg).at ?_))))))))
  show wpAny _ _ (if (onTheHeap (Value.ref D) && Value.builtin "BaseException.__getattribute__" == Value.builtin "object.__getattribute__") = true then _ else _) _ _ _
  rw [k1]
  rw [if_neg Bool.false_ne_true]
  unfold getAttrByItsOwn hookBefore
  refine wpAny_bind ?_
  rw [if_pos (show onTheHeap (Value.ref D) = true from rfl)]
  refine (looks_findIn (M := model prog w) X T.hk).at (wpAny_bind (wpAny_attempt (wpAny_holding ?_)))
  unfold callGetattribute
  have k0 : (false && onTheHeap (Value.builtin "BaseException.__getattribute__")) = false := Bool.false_and ..
  rw [k0]
  rw [if_neg Bool.false_ne_true]
  unfold boundAndCalled
  rw [PySem.F.excAttr_ValueError.ga.bind (.ref x)]
  refine wpAny_bind (wpAny_pure ?_)
  show wpAny _ _ (call (.builtin "BaseException.__getattribute__") [.ref x, .str "__class__" t0]) _ _ _
  refine wpAny_call (codeAny_call_builtin PySem.F.excAttr_ValueError.ga.plain PySem.F.entry_bexc_ga ?_)
  refine @check_slot (model prog w) _ _ ⟨h0, g0, d0, t0 + 1, o0⟩ "BaseException.__getattribute__" "BaseException" "__getattribute__" (.ref x) [.str "__class__" t0] [] _ (by decide +kernel) (by decide +kernel) (ty.andThen (looks_subIn X T.hs)) (PySem.F.args_bexc_ga (.ref x) (.str "__class__" t0)) ?_
  unfold Builtin.«object.__getattribute__»
  refine wpAny_bind (wpAny_of_eq (a := ((Value.ref x : Value), [Value.str "__class__" t0])) (by first | rfl | (simp only [slotArgs]; rfl)) ?_)
  refine wpAny_bind (wpAny_pure (wpAny_bind (ty.at (wpAny_bind ((looks_find (M := model prog w) X I fnd).at ?_)))))
  show wpAny _ _ (holding [Value.builtin "object.__class__"] (call (.builtin "getset_descriptor.__get__") [.builtin "object.__class__", .ref x, .ref D]) >>= ret) _ _ _
  refine wpAny_bind (wpAny_holding (wpAny_call (class_get (s := ⟨h0, g0, d0, t0 + 1, o0⟩) (ox := ox) (od := od) X I T.hm (wpAny_pure ?_))))
  show wpAny _ _ (handedOut (.ref D)) _ _ _
  rw [handedOut_of (v := .ref D) rfl]
  first
    | exact wpAny_pure (wpAny_pure q)
    | exact wpAny_pure q
    | exact wpAny_pure (wpAny_bind (wpAny_pure (wpAny_pure q)))
theorem exc_kitx (T : L2.ExcC K D) : KitX K (.ref x) (.ref D) (fun h => PySem.W.InstAt h x ox D od) := by
  obtain ⟨cd, hc, _⟩ := any_some T.hd
  unfold clsIn at hc
  split at hc
  · rename_i c1 d1 cd1 sl1 ho
    refine ⟨fun _ _ _ I => I.type, fun _ _ X _ => ?_, fun h tp dd its n sl X htp => ?_, fun X I k => exc_class T X I k⟩
    · intro A1 Q1 E1 s1 k1 q1
      unfold isType loadHead
      exact wpAny_bind (wpAny_loadPart (k1 _ _ (X _ _ ho)) (wpAny_pure q1))
    · refine Bool.eq_false_iff.mpr fun q => ?_
      obtain rfl : D = tp := Value.ref.inj (beq_iff_eq.mp q)
      have z := (X _ _ ho).symm.trans htp
      cases z
  · cases hc
end
end CH
namespace CH
open PySem PySem.Spec PyProof.Rows PySem.W PySem.Calls L2
/-- isinstance(e, C) in an except suite: a the exception, cls its class, d its dict -/
def rIsX (K : Frag) (a : Addr) (cls : Value) (d : Option Addr) : List V → Hp → VK → Prop := fun xs H Q =>
  ∃ (D dd : Addr) (fs : List (Str × V)) (c : V) (cv : Value) (b : Bool), xs = [.ref a, c] ∧ cls = .ref D ∧ d = some dd ∧ H dd = some (.xd fs) ∧ ExcC K D ∧ ClsV c cv ∧ kitOne K (.ref D) cv = some b ∧ Q (.bl b) H
theorem inst_caught {X : Cx} {a D dd : Addr} {oe : Obj} {pn pins : List (Addr × Obj)} {σ : L2.St} {H : Hp} {s : Shared} {fs : List (Str × V)} (I : Inv (X.suite a ((a, oe) :: pn)) pins σ H s) (hz : Zc (.ref D) (some dd) oe) (hf : ∃ vs, oe.data = .fields vs) (e : H dd = some (.xd fs)) : ∃ od, PySem.W.InstAt s.heap a oe D (some od) := by
  obtain ⟨ha, _⟩ := I.pin (a, oe) (List.mem_append_left _ List.mem_cons_self)
  obtain ⟨vs, hd⟩ := hf
  have hx : ObjOk X.prog X.w H s.heap dd (.xd fs) := I.hok dd _ e
  obtain ⟨mA, hns, hr⟩ := hx
  obtain ⟨od, ho, hl⟩ := lookIn_ns hns
  refine ⟨od, ha, hz.1, ?_, ?_⟩
  · unfold PySem.W.notCls
    rw [hd]
  · rw [hz.2]
    exact ho
theorem call_isX {X : Cx} {a : Addr} {oe : Obj} {cls : Value} {d : Option Addr} {pn : List (Addr × Obj)} (hz : Zc cls d oe) (hf : ∃ vs, oe.data = .fields vs) {K : Frag} (hK : X.K = K) : CallR (X.suite a ((a, oe) :: pn)) (.builtin "isinstance") (rIsX K a cls d) := by
  subst hK
  intro pins s σ H xs us Q I r h
  obtain ⟨D, dd, fs, c, cv, b, rfl, rfl, rfl, hd, T, hc, hk, q⟩ := h
  obtain ⟨od, J⟩ := inst_caught I hz hf hd
  rcases r with _ | ⟨rx, _ | ⟨rt, _ | _⟩⟩
  obtain rfl := hc.eq rt
  cases rx
  exact PySem.W.kia_one (exc_kitx T) I.kIn J hk (fun z => nomatch z) fun tk => ⟨.bl b, H, I.kept (t' := tk) fun _ _ z => z, rfl, q⟩
/-- e.f in an except suite -/
def tXg (K : Frag) (a : Addr) (cls : Value) (d : Option Addr) (f : Str) (te : TE) : TE := fun σ H Q => te σ H fun x H1 =>
  ∃ (D dd : Addr) (fs : List (Str × V)) (v : V), x = .ref a ∧ cls = .ref D ∧ d = some dd ∧ XfC K D ∧ findIn K (.ref D) f = some none ∧ H1 dd = some (.xd fs) ∧ fs.lookup f = some v ∧ Q v H1
theorem pe_xg {X : Cx} {a : Addr} {oe : Obj} {cls : Value} {d : Option Addr} {pn : List (Addr × Obj)} {e : Expr} {te : TE} {pos : Pos} {n : Str} {K : Frag} (hK : X.K = K) (hz : Zc cls d oe) (hf : ∃ vs, oe.data = .fields vs) (he : PE (X.suite a ((a, oe) :: pn)) e te) (hb : attributeBase e n X.env (eval e X.env) = eval e X.env := by rfl) :
    PE (X.suite a ((a, oe) :: pn)) (.Attribute e n pos) (tXg K a cls d n te) := by
  subst hK
  refine ⟨fun pins s σ H Q I h => attr_of hb (thn (he.run pins s σ H _ I h) fun u s1 hh => ?_)⟩
  obtain ⟨x, H1, I1, rx, D, dd, fs, v, rfl, rfl, rfl, T, hno, ea, l, q⟩ := hh
  obtain rfl : u = Value.ref a := rx
  obtain ⟨ha, _⟩ := I1.pin (a, oe) (List.mem_append_left _ List.mem_cons_self)
  obtain ⟨vs, hd⟩ := hf
  have hx : ObjOk X.prog X.w H1 s1.heap dd (.xd fs) := I1.hok dd _ ea
  obtain ⟨mA, hns, hr⟩ := hx
  obtain ⟨od, ho, hl⟩ := lookIn_ns hns
  obtain ⟨u, hu, ru⟩ := RelO.some_of (v := v) (o := mA n) (l ▸ hr n)
  have J : PySem.W.InstAt s1.heap a oe D (some od) := ⟨ha, hz.1, by unfold PySem.W.notCls; rw [hd], by rw [hz.2]; exact ho⟩
  exact HandSPX.exc_get I1.kIn J T.ga T.gg T.exC (PySem.W.findObj_own T.hdC hno rfl (by rw [hl, hu])) (handed_of ru) ⟨v, H1, I1.tok _, ru, q⟩
/-! ### the classes that a clause names -/
inductive TK (X : Cx) : Expr → (Value → Option Bool) → Prop
  | one {x1 : Str} {c1 : Value} {p1 : Pos} : Names X x1 c1 → TK X (.Name x1 p1) (fun cls => exmOne X.K cls c1)
  | two {x1 x2 : Str} {c1 c2 : Value} {p1 p2 tp : Pos} {kk : Nat} : Names X x1 c1 → Names X x2 c2 → TK X (.Tuple [.Name x1 p1, .Name x2 p2] kk tp) (fun cls => exmAny X.K cls [c1, c2])
  | three {x1 x2 x3 : Str} {c1 c2 c3 : Value} {p1 p2 p3 tp : Pos} {kk : Nat} : Names X x1 c1 → Names X x2 c2 → Names X x3 c3 → TK X (.Tuple [.Name x1 p1, .Name x2 p2, .Name x3 p3] kk tp) (fun cls => exmAny X.K cls [c1, c2, c3])
  | four {x1 x2 x3 x4 : Str} {c1 c2 c3 c4 : Value} {p1 p2 p3 p4 tp : Pos} {kk : Nat} : Names X x1 c1 → Names X x2 c2 → Names X x3 c3 → Names X x4 c4 → TK X (.Tuple [.Name x1 p1, .Name x2 p2, .Name x3 p3, .Name x4 p4] kk tp) (fun cls => exmAny X.K cls [c1, c2, c3, c4])
section
variable {X : Cx} {a : Addr} {oe : Obj} {pn : List (Addr × Obj)} {σ : L2.St} {H : Hp} {s : Shared} {E : Value → Shared → Prop}
theorem nm_eval {x : Str} {c : Value} {np : Pos} {Q : Value → Shared → Prop} (hc : Names X x c) (S : Inv (X.suite a ((a, oe) :: pn)) [] σ H s) (q : Q c s) : wpAny (model X.prog X.w) (X.A.mark (some (.ref a))) (eval (.Name x np) X.env) Q E s := by
  rcases hc with ⟨g1, g2, g3 | ⟨g3, g4, g5⟩⟩
  · exact ld_glob (X := X.suite a ((a, oe) :: pn)) S g1 g3 q g2
  · exact ld_blt (X := X.suite a ((a, oe) :: pn)) S g1 g3 g4 q g5 g2
theorem tk_run {te : Expr} {f : Value → Option Bool} {cls : Value} {b : Bool} {Q : Bool → Shared → Prop} (T : TK X te f) (S : Inv (X.suite a ((a, oe) :: pn)) [] σ H s) (ha : s.heap.get? a = some oe) (hc : oe.cls = cls) (hb : f cls = some b)
    (q : ∀ h', (∀ r o, s.heap.get? r = some o → h'.get? r = some o) → Q b { s with heap := h' }) :
    wpAny (model X.prog X.w) (X.A.mark (some (.ref a))) (eval te X.env) (fun c s₁ => wpAny (model X.prog X.w) (X.A.mark (some (.ref a))) (excMatches (.ref a) c) Q E s₁) E s := by
  have LT : Looks (model X.prog X.w) s.heap (typeOf (.ref a)) cls := fun A Q E s k q => wpAny_typeOf_ref (k _ _ ha) (hc ▸ q)
  have kp : ∀ {l : List Value} q o, s.heap.get? q = some o → (s.heap.push { cls := .type "tuple", data := .seq l.toArray }).get? q = some o := fun _ _ z => Heap.get?_push_of_some _ z
  cases T with
  | one n1 => exact nm_eval n1 S ((exm_one (M := model X.prog X.w) S.kIn LT hb).here (q s.heap fun _ _ z => z))
  | two n1 n2 => exact wpAny_Tuple (wpAny_items_cons (nm_eval n1 S (wpAny_items_cons (nm_eval n2 S (wpAny_items_nil ⟨by size_fits, (exm_tup2 (S.kIn.keeps kp) (LT.keeps kp) (Heap.get?_push_size s.heap rfl) hb).here (q _ kp)⟩)))))
  | three n1 n2 n3 => exact wpAny_Tuple (wpAny_items_cons (nm_eval n1 S (wpAny_items_cons (nm_eval n2 S (wpAny_items_cons (nm_eval n3 S (wpAny_items_nil ⟨by size_fits, (exm_tup3 (S.kIn.keeps kp) (LT.keeps kp) (Heap.get?_push_size s.heap rfl) hb).here (q _ kp)⟩)))))))
  | four n1 n2 n3 n4 => exact wpAny_Tuple (wpAny_items_cons (nm_eval n1 S (wpAny_items_cons (nm_eval n2 S (wpAny_items_cons (nm_eval n3 S (wpAny_items_cons (nm_eval n4 S (wpAny_items_nil ⟨by size_fits, (exm_tup4 (S.kIn.keeps kp) (LT.keeps kp) (Heap.get?_push_size s.heap rfl) hb).here (q _ kp)⟩)))))))))
end
theorem fly_on {B h h' : Heap} {l : List Env} {e : Addr} {Z : Obj → Prop} (R : HandSPX.FlyingZ B l e Z h) (k : ∀ b o, h.get? b = some o → h'.get? b = some o) : HandSPX.FlyingZ B l e Z h' := by
  rcases R with ⟨g1, g2, g3, o1, vs, T, oT, ts, q1, q2, q3, q4, q5, q6, q7, q8, q9⟩
  exact ⟨fun b o q => k b o (g1 b o q), g2, g3.of_keeps fun b o q _ => ⟨o, k b o q, rfl⟩, o1, vs, T, oT, ts, k _ _ q1, q2, q3, q4, q5, q6, k _ _ q7, q8, q9⟩
/-! ### try: body, except ..: suite, .. -/
abbrev Clause := (Value → Option Bool) × Option Nat × (Addr → Value → Option Addr → TS)
/-- behind a suite with a name the name is gone -/
def goneE (i : Nat) (D : Ends) : Ends := { nx := fun σ' H' => D.nx (σ'.set i none) H', rt := D.rt, bk := fun σ' H' => D.bk (σ'.set i none) H', ct := fun σ' H' => D.ct (σ'.set i none) H' }
def wTry (Wout : WX) (D : Ends) : List Clause → WX
  | [] => Wout
  | (f, none, ts) :: r => fun cls d σ H => ∃ b, f cls = some b ∧ if b = true then ∀ a, H a = none → ts a cls d D σ H else wTry Wout D r cls d σ H
  | (f, some i, ts) :: r => fun cls d σ H => ∃ b, f cls = some b ∧ if b = true then ∀ a, H a = none → ts a cls d (goneE i D) (σ.set i (some (.ref a))) H else wTry Wout D r cls d σ H
inductive ClsOk (X : Cx) : List ExceptHandler → List Clause → Prop
  | nil : ClsOk X [] []
  | plain {te : Expr} {f : Value → Option Bool} {ts : Addr → Value → Option Addr → TS} {b₀ : Stmt} {su : List Stmt} {pos : Pos} {hds : List ExceptHandler} {l : List Clause} (ht : TK X te f)
      (hsu : ∀ (a : Addr) (oe : Obj) (cls : Value) (d : Option Addr) (pn : List (Addr × Obj)), Zc cls d oe → (∃ vs, oe.data = .fields vs) → PSs (X.suite a ((a, oe) :: pn)) (b₀ :: su) (ts a cls d)) (r : ClsOk X hds l) :
      ClsOk X (.ExceptHandler (some te) none (b₀ :: su) pos :: hds) ((f, none, ts) :: l)
  | named {te : Expr} {f : Value → Option Bool} {n : Str} {i : Nat} {ts : Addr → Value → Option Addr → TS} {b₀ : Stmt} {su : List Stmt} {pos : Pos} {hds : List ExceptHandler} {l : List Clause} (ht : TK X te f) (hi : X.N[i]? = some n) (hln : X.env.kindOf n = some .local)
      (hsu : ∀ (a : Addr) (oe : Obj) (cls : Value) (d : Option Addr) (pn : List (Addr × Obj)), Zc cls d oe → (∃ vs, oe.data = .fields vs) → PSs (X.suite a ((a, oe) :: pn)) (b₀ :: su) (ts a cls d)) (r : ClsOk X hds l) :
      ClsOk X (.ExceptHandler (some te) (some n) (b₀ :: su) pos :: hds) ((f, some i, ts) :: l)
section
variable {X : Cx} {pins : List (Addr × Obj)} {σ : L2.St} {H : Hp} {D : Ends} {sI s' : Shared} {a : Addr} {B : Heap} {cls : Value} {d : Option Addr} {Wout : WX}
/-- the exception stands noted at the frame: the clauses, one behind the other -/
theorem clauses_run {hds : List ExceptHandler} {l : List Clause} (hk : ClsOk X hds l) : ∀ {h3 : Heap}, (ok : X.Ok) → X.A.frames = some (X.env :: X.outer) → X.stack = X.env :: X.outer → X.env.frame = some X.env.locals → X.N.Nodup → Takes X Wout → Inv X pins σ H sI → (∀ b o, sI.heap.get? b = some o → b ∉ frs X.stack → B.get? b = some o) → sI.heap.UpToSlots h3 → HandSPX.FlyingZ B (X.env :: X.outer) a (Zc cls d) h3 →
    H a = none → s'.os = sI.os → AllBare s'.gens → wTry Wout D l cls d σ H → wpAny (model X.prog X.w) X.A (handleBy (.ref a) X.env hds) (SP X pins D) X.xe { s' with heap := h3 } := by
  induction hk with
  | nil =>
    intro h3 ok hfr hs hf hN tk J nb up fl na os ag w
    refine wpAny_handleBy_nil ?_
    obtain ⟨_, _, _, oe, vs, T, oT, ts', he, hz, hd, h1, _⟩ := id fl
    unfold PySem.passOn
    refine wpAny_bind (wpAny_field he hd h1 ?_)
    rw [if_neg (show ¬ ((Value.ref T == Value.none) = true) from by simp)]
    have out : wpAny (model X.prog X.w) X.A (setFlight (.ref a) X.env.frame) (fun _ s4 => wpAny (model X.prog X.w) X.A (throw (.ref a) : Sem Flow) (SP X pins D) X.xe s4) X.xe { s' with heap := h3 } := by
      rw [hf]
      exact HandSPX.setFlight_upZ fl fun h4 hh4 up4 => wpAny_throw (tk _ _ ⟨a, B, sI, pins, σ, H, cls, d, rfl, J, nb, up.trans up4, .inr (.inr (hs ▸ hh4)), na, os, ag, w⟩)
    first
      | exact wpAny_bind (wpAny_pure (wpAny_bind out))
      | exact wpAny_bind out
  | @plain te f ts b₀ su pos hds l ht hsu r ih =>
    intro h3 ok hfr hs hf hN tk J nb up fl na os ag w
    obtain ⟨b, hb, w⟩ := w
    have J3 : Inv X pins σ H { s' with heap := h3 } := J.landed nb fl.1 up os ag
    obtain ⟨oe3, vs3, he3, hz3, hd3⟩ := fl.there
    have nfr : ∀ {h : Heap} {o : Obj} {vs : Array Value}, h.FunFrames B (X.env :: X.outer) → h.get? a = some o → o.data = .fields vs → a ∉ frs (X.env :: X.outer) := fun {h o vs} ff e dd hm => by
      obtain ⟨_, o2, e2, z⟩ := ff.mem hm
      cases e.symm.trans e2
      exact z _ dd
    have n1 := nfr fl.2.2.1 he3 hd3
    have nL : a ≠ X.env.locals := fun z => n1 (List.mem_filterMap.mpr ⟨X.env, List.mem_cons_self, by rw [hf, z]⟩)
    have nF : a ∉ X.fs := fun hm => by
      obtain ⟨e, he, q⟩ := List.mem_filterMap.mp hm
      exact n1 (List.mem_filterMap.mpr ⟨e, List.mem_cons_of_mem _ he, q⟩)
    refine wpAny_handleBy_cons (codeAny_handlers_test ?_) (by intro q; cases q)
    refine tk_run ht (J3.suite he3 hd3 na nL nF) he3 hz3.1 hb fun h5 k5 => ?_
    have fl5 := fly_on fl k5
    have up5 : sI.heap.UpToSlots h5 := up.trans (Heap.UpToSlots.of_keeps k5)
    cases b with
    | false => exact ih ok hfr hs hf hN tk J nb up5 fl5 na os ag w
    | true =>
      refine codeAny_handlers_suite (HandSPX.lands_againZ fl5 fun h4 fl4 up4 => ?_)
      obtain ⟨oe4, vs4, he4, hz4, hd4⟩ := fl4.there
      have S4 := (show Inv X pins σ H { s' with heap := h4 } from J.landed nb fl4.1 (up5.trans up4) os ag).suite he4 hd4 na nL nF
      refine wpAny_mono ((hsu a oe4 cls d (X.pn ++ pins) hz4 ⟨_, hd4⟩).run [] _ _ H _ S4 (w a na)) (fun fw s6 hsp => ?_) (fun _ _ z => False.elim z)
      cases fw with
      | next => exact let ⟨_, _, S6, q6⟩ := hsp; ⟨_, _, S6.unsuite ok, q6⟩
      | brk => exact let ⟨_, _, S6, q6⟩ := hsp; ⟨_, _, S6.unsuite ok, q6⟩
      | cont => exact let ⟨_, _, S6, q6⟩ := hsp; ⟨_, _, S6.unsuite ok, q6⟩
      | ret u => exact let ⟨_, _, _, S6, r6, q6⟩ := hsp; ⟨_, _, _, S6.unsuite ok, r6, q6⟩
  | @named te f n i ts b₀ su pos hds l ht hi hln hsu r ih =>
    intro h3 ok hfr hs hf hN tk J nb up fl na os ag w
    obtain ⟨b, hb, w⟩ := w
    have J3 : Inv X pins σ H { s' with heap := h3 } := J.landed nb fl.1 up os ag
    obtain ⟨oe3, vs3, he3, hz3, hd3⟩ := fl.there
    have nfr : ∀ {h : Heap} {o : Obj} {vs : Array Value}, h.FunFrames B (X.env :: X.outer) → h.get? a = some o → o.data = .fields vs → a ∉ frs (X.env :: X.outer) := fun {h o vs} ff e dd hm => by
      obtain ⟨_, o2, e2, z⟩ := ff.mem hm
      cases e.symm.trans e2
      exact z _ dd
    have n1 := nfr fl.2.2.1 he3 hd3
    have nL : a ≠ X.env.locals := fun z => n1 (List.mem_filterMap.mpr ⟨X.env, List.mem_cons_self, by rw [hf, z]⟩)
    have nF : a ∉ X.fs := fun hm => by
      obtain ⟨e, he, q⟩ := List.mem_filterMap.mp hm
      exact n1 (List.mem_filterMap.mpr ⟨e, List.mem_cons_of_mem _ he, q⟩)
    refine wpAny_handleBy_cons (codeAny_handlers_test ?_) (by intro q; cases q)
    refine tk_run ht (J3.suite he3 hd3 na nL nF) he3 hz3.1 hb fun h5 k5 => ?_
    have fl5 := fly_on fl k5
    have up5 : sI.heap.UpToSlots h5 := up.trans (Heap.UpToSlots.of_keeps k5)
    cases b with
    | false => exact ih ok hfr hs hf hN tk J nb up5 fl5 na os ag w
    | true =>
      refine codeAny_handlers_suite_as (HandSPX.lands_againZ fl5 fun h4 fl4 up4 => ?_)
      obtain ⟨oe4, vs4, he4, hz4, hd4⟩ := fl4.there
      have S4 := (show Inv X pins σ H { s' with heap := h4 } from J.landed nb fl4.1 (up5.trans up4) os ag).suite he4 hd4 na nL nF
      refine store_ok (X := X.suite a ((a, oe4) :: (X.pn ++ pins))) (v := .ref a) S4 hN hi (.inl hln) rfl (fun s5 S5 => ?_) (.inr hln)
      refine wpAny_mono ((hsu a oe4 cls d (X.pn ++ pins) hz4 ⟨_, hd4⟩).run [] s5 _ H _ S5 (w a na)) (fun fw s6 hsp => ?_) (fun _ _ z => False.elim z)
      have end_ : ∀ {σ6 : L2.St} {H6 : Hp} {Q : Shared → Prop}, Inv (X.suite a ((a, oe4) :: (X.pn ++ pins))) [] σ6 H6 s6 → (∀ s7, Inv X pins (σ6.set i none) H6 s7 → Q s7) →
          wpAny (model X.prog X.w) X.A (do bindName X.env n .none; unbindBehindTheSuite X.env n pos) (fun _ s7 => Q s7) X.xe s6 := fun {σ6 H6 Q} S6 hq => gone_ok (S6.unsuite ok) hN hi hln hq
      cases fw with
      | next => exact let ⟨_, _, S6, q6⟩ := hsp; end_ S6 fun s7 J7 => ⟨_, _, J7, q6⟩
      | brk => exact let ⟨_, _, S6, q6⟩ := hsp; end_ S6 fun s7 J7 => ⟨_, _, J7, q6⟩
      | cont => exact let ⟨_, _, S6, q6⟩ := hsp; end_ S6 fun s7 J7 => ⟨_, _, J7, q6⟩
      | ret u => exact let ⟨_, _, _, S6, r6, q6⟩ := hsp; end_ S6 fun s7 J7 => ⟨_, _, _, J7, r6, q6⟩
theorem ps_try_g {body : List Stmt} {h₀ : ExceptHandler} {hds : List ExceptHandler} {l : List Clause} {pos : Pos} {tb : WX → TS} (hs : X.stack = X.env :: X.outer) (hf : X.env.frame = some X.env.locals) (hN : X.N.Nodup) (tk : Takes X Wout)
    (hb : ∀ (W : WX) (pn : List (Addr × Obj)) (xe : Value → Shared → Prop), Takes (X.tr pn xe) W → PassesOwn (model X.prog X.w) X.A X.env xe → PSs (X.tr pn xe) body (tb W))
    (hh : ClsOk X (h₀ :: hds) l) : PS X (.Try body (h₀ :: hds) [] [] pos) (fun D σ H => tb (wTry Wout D l) D σ H) := by
  refine ⟨fun pins s σ H D I h => ?_⟩
  have ok := I.ok
  have hfr : X.A.frames = some (X.env :: X.outer) := hs ▸ ok.frames
  refine wpAny_Try_except (wpAny_mono ((hb (wTry Wout D l) (X.pn ++ pins) (fun e s₁ => wpAny (model X.prog X.w) X.A (noteFrame e X.env) (fun _ s₂ => wpAny (model X.prog X.w) X.A (setFlight e none) (fun _ s₃ =>
    wpAny (model X.prog X.w) X.A (handleBy e X.env (h₀ :: hds)) (SP X pins D) X.xe s₃) X.xe s₂) X.xe s₁) (fun u s1 xx => ?_) PassesOwn.looking).run [] s σ H D (I.toTry _) h) (fun fw s1 hsp => ?_) (fun e s1 he => he))
  · obtain ⟨a, B, sI, pins', σ', H', cls, d, rfl, J', nb, up, sky, na, os, ag, w⟩ := xx
    show wpAny (model X.prog X.w) X.A (noteFrame (.ref a) X.env) _ _ _
    refine Sky.land Zc.steady hfr hf (show Sky B (X.env :: X.outer) a (Zc cls d) X.env.locals s1.heap from hs ▸ sky) fun h3 fl3 up3 => ?_
    exact clauses_run hh ok hfr hs hf hN tk (J'.ofTry ok) nb (up.trans up3) fl3 na os ag w
  · cases fw with
    | next => exact let ⟨_, _, J', q⟩ := hsp; wpAny_execs_nil ⟨_, _, J'.ofTry ok, q⟩
    | brk => exact let ⟨_, _, J', q⟩ := hsp; ⟨_, _, J'.ofTry ok, q⟩
    | cont => exact let ⟨_, _, J', q⟩ := hsp; ⟨_, _, J'.ofTry ok, q⟩
    | ret u => exact let ⟨_, _, _, J', r, q⟩ := hsp; ⟨_, _, _, J'.ofTry ok, r, q⟩
end
end CH

/-! ### calls that may raise, at the caller's slots; len, == of own objects; == and != by items that are one -/
namespace CH
open PySem PySem.Spec PyProof.Rows PySem.W PySem.Calls L2
def tMethE (C : Addr) (m : Str) (sp : Sp) (dvs : List V) (E : L2.St → XK) (ta : TE) (t : TA) : TE := fun σ H Q => ta σ H fun x H1 => ∃ a dx fs, x = .ref a ∧ H1 a = some (.ins C dx fs) ∧ fs.lookup m = none ∧ t σ H1 fun vs H2 => sp (x :: (vs ++ dvs)) H2 Q (E σ)
def tMakeE (C : Addr) (sp : Sp) (dvs : List V) (E : L2.St → XK) (t : TA) : TE := fun σ H Q => t σ H fun vs H1 => ∀ x dx, H1 x = none → H1 dx = none → dx ≠ x → sp (.ref x :: (vs ++ dvs)) (upd (upd H1 dx (.own x)) x (.ins C dx [])) (fun v H2 => v = .non ∧ Q (.ref x) H2) (E σ)
section
variable {X : Cx} {CX : CXT} {k : Nat} {f C : Addr} {fd : FuncData} {ps : List Str} {sp : Sp} {dvs : List V} {ds : List Value} {E : L2.St → XK} {x m : Str} {p pos apos : Pos} {e o : Expr} {es : List Expr} {ta : TE} {t : TA}
theorem pe_methE {pl : Sem Bool} (he : PE X o ta) (c : Cls X.K C) (hm : Meth X.K C m f) (F : FnOk X.prog X.w X.K X.mg X.base CX k f fd ps sp) (hr : Room k X.A) (hb : Binds X.K fd ps ds) (hd : Vals dvs ds) (hx : ∀ σ, PassesAt CX X σ (E σ)) (ha : PA X (e :: es) t)
    (hst : starEach (e :: es) X.env = (false, eval e X.env) :: starEach es X.env := by rfl) (hpl : (backTo pos (starEach es X.env)).any (·.1) = false := by rfl)
    (ht : eval (.Call (.Attribute o m apos) (e :: es) [] pos) X.env = (eval o X.env >>= fun ov => standAt apos.atName >>= fun _ => holding [ov] (getMethod ov m pl) >>= fun r => callWith pos r.1 r.2 (backTo pos (starEach (e :: es) X.env)) (backToKw pos (keywordEach [] X.env))) := by rfl) :
    PE X (.Call (.Attribute o m apos) (e :: es) [] pos) (tMethE C m sp dvs E ta t) := by
  refine ⟨fun pins s σ H Q I h => PySem.W.methodCall_KW (pl := pl) (thn (he.run pins s σ H _ I h) fun u s1 hh => ?_) ht⟩
  obtain ⟨_, H1, I1, rx, a, dx, fs, rfl, ea, l, q⟩ := hh
  obtain rfl : u = Value.ref a := rx
  refine getmeth_ok I1 ea c hm l (PySem.W.callWith_K (first := [.ref a]) (h₀ := X.base) I.ok.mod.kin hm.kp (thn (ha.run pos pins s1 σ H1 _ I1 q) fun us s2 hh => ?_) hst hpl)
  obtain ⟨vs, H2, I2, r, q2⟩ := hh
  exact ⟨I2.kIn, run_fnSD (us := .ref a :: us) (vs := .ref a :: vs) F hr hb hd (hx σ) I2 (.cons rfl r) q2⟩
theorem pe_methE0 {pl : Sem Bool} (he : PE X o ta) (c : Cls X.K C) (hm : Meth X.K C m f) (F : FnOk X.prog X.w X.K X.mg X.base CX k f fd ps sp) (hr : Room k X.A) (hb : Binds X.K fd ps ds) (hd : Vals dvs ds) (hx : ∀ σ, PassesAt CX X σ (E σ))
    (ht : eval (.Call (.Attribute o m apos) [] [] pos) X.env = (eval o X.env >>= fun ov => standAt apos.atName >>= fun _ => holding [ov] (getMethod ov m pl) >>= fun r => callWith pos r.1 r.2 (backTo pos (starEach [] X.env)) (backToKw pos (keywordEach [] X.env))) := by rfl) :
    PE X (.Call (.Attribute o m apos) [] [] pos) (tMethE C m sp dvs E ta tNil) := by
  refine ⟨fun pins s σ H Q I h => PySem.W.methodCall_KW (pl := pl) (thn (he.run pins s σ H _ I h) fun u s1 hh => ?_) ht⟩
  obtain ⟨_, H1, I1, rx, a, dx, fs, rfl, ea, l, q⟩ := hh
  obtain rfl : u = Value.ref a := rx
  exact getmeth_ok I1 ea c hm l (PySem.W.callWith_K0 (first := [.ref a]) I1.kIn hm.kp (run_fnSD (us := [.ref a]) (vs := [.ref a]) F hr hb hd (hx σ) I1 (.cons rfl .nil) q))
theorem pe_call0E (F : FnOk X.prog X.w X.K X.mg X.base CX k f fd ps sp) (hr : Room k X.A) (hg : Gl X x) (hm : X.mg x = some (.ref f)) (hk : PySem.W.keepIn X.K (.ref f) = true) (hb : Binds X.K fd ps ds) (hd : Vals dvs ds) (hx : ∀ σ, PassesAt CX X σ (E σ))
    (hdb : (x == ("__debug__" : Str)) = false := by decide) : PE X (.Call (.Name x p) [] [] pos) (tCallSD sp dvs E tNil) :=
  ⟨fun _ _ σ _ _ I h => wpAny_Call_Name_kw (ld_glob I hg hm (PySem.W.callWith_K0 I.kIn hk (run_fnSD (us := []) F hr hb hd (hx σ) I .nil h)) hdb)⟩
theorem run_makeE {pins : List (Addr × Obj)} {σ : L2.St} {H : Hp} {s : Shared} {Q : VK} {us : List Value} {vs : List V} {E : XK} (M : Mk X.K C f) (F : FnOk X.prog X.w X.K X.mg X.base CX k f fd ps sp) (hr : Room (k + 1) X.A) (hb : Binds X.K fd ps ds) (hd : Vals dvs ds)
    (hx : ∀ (H1 : Hp) (s1 : Shared) (e : Value) (s' : Shared), Inv X pins σ H1 s1 → CX X.stack H1 s1 E e s' → X.xe e s') (I : Inv X pins σ H s) (r : Vals vs us)
    (h : ∀ x dx, H x = none → H dx = none → dx ≠ x → sp (.ref x :: (vs ++ dvs)) (upd (upd H dx (.own x)) x (.ins C dx [])) (fun v H2 => v = .non ∧ Q (.ref x) H2) E) :
    wpAny (model X.prog X.w) X.A (call (.ref C) us) (EP X pins σ Q) X.xe s := by
  have q := h (s.heap.objs.size + 1) s.heap.objs.size (I.hok.fresh (Nat.le_succ _)) (I.hok.fresh (Nat.le_refl _)) (Nat.ne_of_lt (Nat.lt_succ_self _))
  have I2 := Inv.made (C := C) I
  have r2 : Vals (V.ref (s.heap.objs.size + 1) :: (vs ++ dvs)) (Value.ref (s.heap.objs.size + 1) :: (us ++ ds)) := .cons rfl (r.append hd)
  have hl : (Value.ref (s.heap.objs.size + 1) :: us ++ ds).length = ps.length := by
    have z := r2.length
    rw [show Value.ref (s.heap.objs.size + 1) :: us ++ ds = Value.ref (s.heap.objs.size + 1) :: (us ++ ds) from rfl, ← z]
    exact F.len _ _ _ _ q
  refine wpAny_call (make_map (f := f) I.kIn M.makes M.init (beq_iff_eq.mp M.fn) (codeAny_mono (F.run _ X.stack _ _ ⟨Value.ref (s.heap.objs.size + 1) :: us, []⟩ (Value.ref (s.heap.objs.size + 1) :: (us ++ ds)) _ _ E (hr.make C us []) (I2.env0.make C us []) (hb _ (Value.ref (s.heap.objs.size + 1) :: us) I2.kIn hl) r2 q) fun rr s' hq => ?_))
  cases rr with
  | error e => exact hx _ _ e s' I2 hq
  | ok fl =>
    cases fl with
    | ret u =>
      obtain ⟨v, H', J, rv, e, q'⟩ := I2.after hq
      subst e
      obtain rfl : u = Value.none := rv
      exact ⟨rfl, .ref _, H', J, rfl, q'⟩
    | next => exact False.elim hq
    | brk => exact False.elim hq
    | cont => exact False.elim hq
theorem pe_makeE (M : Mk X.K C f) (F : FnOk X.prog X.w X.K X.mg X.base CX k f fd ps sp) (hr : Room (k + 1) X.A) (hg : Gl X x) (hm : X.mg x = some (.ref C)) (hb : Binds X.K fd ps ds) (hd : Vals dvs ds) (hx : ∀ σ, PassesAt CX X σ (E σ))
    (ha : PA X (e :: es) t) (hdb : (x == ("__debug__" : Str)) = false := by decide) (he : starEach (e :: es) X.env = (false, eval e X.env) :: starEach es X.env := by rfl) (hpl : (backTo pos (starEach es X.env)).any (·.1) = false := by rfl) :
    PE X (.Call (.Name x p) (e :: es) [] pos) (tMakeE C sp dvs E t) :=
  ⟨fun pins s σ H Q I h => wpAny_Call_Name_kw (ld_glob I hg hm (PySem.W.callWith_K (h₀ := X.base) I.ok.mod.kin M.kp (thn (ha.run pos pins s σ H _ I h) fun us s1 hh => let ⟨vs, H1, I1, r, q⟩ := hh; ⟨I1.kIn, run_makeE M F hr hb hd (fun H1 s1 e s' J c => hx σ pins H1 s1 e s' J c) I1 r q⟩) he hpl) hdb)⟩
end
/-! ### one's own objects: len, == -/
theorem inst_of {X : Cx} {pins : List (Addr × Obj)} {σ : L2.St} {H : Hp} {s : Shared} {a C dx : Addr} {fs : List (Str × V)} (I : Inv X pins σ H s) (e : H a = some (.ins C dx fs)) : ∃ ox od, PySem.W.InstAt s.heap a ox C (some od) := by
  obtain ⟨mA, ⟨ob, hns, _⟩, _⟩ := ins_get I.hok e
  obtain ⟨od, ho, _⟩ := lookIn_ns hns
  exact ⟨_, od, ob, rfl, rfl, ho⟩
section
variable {X : Cx} {CX : CXT} {k : Nat} {f C : Addr} {fd : FuncData} {ps : List Str} {sp : Sp} {E : XK}
theorem call_lenO {K : Frag} (hK : X.K = K) (hs : findIn K (.ref C) "__len__" = some (some (.ref f))) (hf : isFn K (.ref f) = true) (F : FnOk X.prog X.w X.K X.mg X.base CX k f fd ps sp) (hr : Room (k + 1) X.A) (hb : Binds X.K fd ps []) (hx : Passes CX X E) :
    CallR X (.builtin "len") (fun xs H Q => ∃ a dx fs, xs = [.ref a] ∧ H a = some (.ins C dx fs) ∧ sp [.ref a] H (fun v H' => ∃ n : Int, v = .int n ∧ 0 ≤ n ∧ n < 2 ^ 63 ∧ Q (.int n) H') E) := by
  subst hK
  intro pins s σ H xs us Q I r h
  obtain ⟨a, dx, fs, rfl, ea, q⟩ := h
  rw [Vals.ref1 r]
  obtain ⟨ox, od, J⟩ := inst_of I ea
  obtain ⟨m, hn, _⟩ := I.loc
  have Fr0 : Fr X.base X.env.locals s.heap m := ⟨hn, I.bk, Nat.le_trans I.ok.bsz I.ok.above⟩
  have hl : [Value.ref a].length = ps.length := by
    have z := F.len _ _ _ _ q
    exact z
  have b := hb s [.ref a] I.kIn (by rw [List.append_nil]; exact hl)
  rw [List.append_nil] at b
  refine PySem.W.len_K Fr0 I.ok.mod.kin J hs hf (wpAny_call (codeAny_mono (F.run X.A.in1 X.stack s H ⟨[.ref a], []⟩ [.ref a] [.ref a] _ E hr.in1 I.env0.in1 b (.cons rfl .nil) q) fun rr s' hq => ?_))
  cases rr with
  | error e => exact hx pins σ H s e s' I hq
  | ok fl =>
    cases fl with
    | ret u =>
      obtain ⟨v, H', J', rv, n, rfl, h0, h1, qq⟩ := I.after hq
      obtain ⟨t, rfl⟩ := rv
      exact ⟨⟨h0, h1⟩, .int n, H', J'.tok _, ⟨_, rfl⟩, qq⟩
    | next => exact False.elim hq
    | brk => exact False.elim hq
    | cont => exact False.elim hq
theorem rc_own {prog : Program} {w : World} {A : Around} {E : Value → Shared → Prop} {s : Shared} {K : Frag} {x y : Addr} {ox oy : Obj} {od od2 : Option Obj} {Q : Value → Shared → Prop} (hu : A.units < cLine) (XI : K.In s.heap) (I : PySem.W.InstAt s.heap x ox C od) (J : PySem.W.InstAt s.heap y oy C od2)
    (hs : findIn K (.ref C) "__eq__" = some (some (.ref f))) (hf : isFn K (.ref f) = true) (h : wpAny (model prog w) A (call (.ref f) [.ref x, .ref y]) (fun v s' => ∃ b, v = .bool b ∧ Q (.bool b) s') E s) : wpAny (model prog w) A (richCompare .Eq (.ref x) (.ref y)) Q E s := by
  unfold richCompare
  simp only [oneThing_ref]
  refine wpAny_holding (wpAny_bind (wpAny_cRoomFor hu ?_))
  rw [cmpInfo_Eq]
  dsimp only
  refine wpAny_bind (wpAny_typeOf_ref I.at_ (I.cls ▸ wpAny_bind (wpAny_typeOf_ref J.at_ ?_)))
  rw [J.cls]
  have e0 : (Value.ref C != Value.ref C) = false := by simp
  rw [e0]
  simp only [Bool.false_eq_true, if_false]
  refine wpAny_bind (wpAny_pure ?_)
  simp only [Bool.false_eq_true, if_false]
  unfold tryCompare
  refine wpAny_bind (wpAny_bind (ifBound_K XI I hs hf (wpAny_mono h (fun v s' hv => ?_) fun _ _ z => z)))
  obtain ⟨b, rfl, hq⟩ := hv
  exact wpAny_pure (wpAny_pure hq)
theorem op_eqO {K : Frag} (hK : X.K = K) (hs : findIn K (.ref C) "__eq__" = some (some (.ref f))) (hf : isFn K (.ref f) = true) (F : FnOk X.prog X.w X.K X.mg X.base CX k f fd ps sp) (hr : Room k X.A) (hb : Binds X.K fd ps []) (hx : Passes CX X E) :
    OpR X (compareOp .Eq) (fun x y H Q => ∃ a dx fs b dy gs, x = .ref a ∧ y = .ref b ∧ H a = some (.ins C dx fs) ∧ H b = some (.ins C dy gs) ∧ sp [.ref a, .ref b] H (fun v H' => ∃ z, v = .bl z ∧ Q (.bl z) H') E) := by
  subst hK
  intro pins s σ H x y v u Q I rx ry h
  obtain ⟨a, dx, fs, b, dy, gs, rfl, rfl, ea, eb, q⟩ := h
  obtain rfl : v = Value.ref a := rx
  obtain rfl : u = Value.ref b := ry
  obtain ⟨ox, od, J⟩ := inst_of I ea
  obtain ⟨oy, od2, J2⟩ := inst_of I eb
  refine PySem.W.cmp_ofEq (rc_own hr.units0 I.kIn J J2 hs hf ?_)
  have hd : Vals ([] : List V) ([] : List Value) := .nil
  refine wpAny_mono (run_fn (us := [.ref a, .ref b]) (vs := [.ref a, .ref b]) F hr hb hd hx I (.cons rfl (.cons rfl .nil)) (by rw [List.append_nil]; exact q)) (fun r s' hq => ?_) fun _ _ z => z
  obtain ⟨v, H', J', rv, z, rfl, qq⟩ := hq
  obtain rfl : r = Value.bool z := rv
  exact ⟨z, rfl, .bl z, H', J', rfl, qq⟩
end
/-! ### == and != of lists and tuples whose items are one and the same, or plain data -/
inductive E1 (K : Frag) (H : Hp) : V → V → Bool → Prop
  | same (a : Addr) : E1 K H (.ref a) (.ref a) true
  | str (a b : Str) : E1 K H (.str a) (.str b) (a == b)
  | dat {x y : V} {d e : PyData} : Dp K H x d → Dp K H y e → SeqAt.shaped d = true → SeqAt.shaped e = true → E1 K H x y (PyData.eqv d e)
inductive E1s (K : Frag) (H : Hp) : List V → List V → Bool → Prop
  | nil : E1s K H [] [] true
  | cons {x y : V} {xs ys : List V} {b c : Bool} : E1 K H x y b → E1s K H xs ys c → E1s K H (x :: xs) (y :: ys) (b && c)
def rEqX (K : Frag) : R2 := fun x y H Q => ∃ a b xs ys c, x = .ref a ∧ y = .ref b ∧ ((SqT K H a xs ∧ SqT K H b ys) ∨ (SqL K H a xs ∧ SqL K H b ys)) ∧ E1s K H xs ys c ∧ Q (.bl c) H
def rNeX (K : Frag) : R2 := fun x y H Q => ∃ a b xs ys c, x = .ref a ∧ y = .ref b ∧ ((SqT K H a xs ∧ SqT K H b ys) ∨ (SqL K H a xs ∧ SqL K H b ys)) ∧ E1s K H xs ys c ∧ Q (.bl (!c)) H
section
variable {X : Cx} {pins : List (Addr × Obj)} {σ : L2.St} {H : Hp} {s : Shared}
theorem E1.at (I : Inv X pins σ H s) {A : Around} (hu : A.units + 64 < cLine) {x y : V} {c : Bool} (h : E1 X.K H x y c) {u v : Value} (ru : RelV x u) (rv : RelV y v) : SeqAt.EqAt A s u v c := by
  cases h with
  | same a =>
    obtain rfl : u = Value.ref a := ru
    obtain rfl : v = Value.ref a := rv
    exact SeqAt.EqAt.same _
  | str a b =>
    obtain ⟨t, rfl⟩ := ru
    obtain ⟨t', rfl⟩ := rv
    exact SeqAt.EqAt.str_str _ _ _ _
  | @dat _ _ d e hd he sd se =>
    obtain ⟨as, r1⟩ := Dp.reads I d x u hd ru
    obtain ⟨bs, r2⟩ := Dp.reads I e y v he rv
    exact SeqAt.eqAt_reads d e A s u v as bs r1 r2 (SeqAt.canLay_of_shaped sd) (SeqAt.canLay_of_shaped se) (SeqAt.room_of_shaped sd hu)
theorem E1s.at (I : Inv X pins σ H s) {A : Around} (hu : A.units + 64 < cLine) {xs ys : List V} {c : Bool} (h : E1s X.K H xs ys c) : ∀ {us vs : List Value}, Vals xs us → Vals ys vs → us.length = vs.length ∧ ∃ e : Nat → Bool, (∀ j (h1 : j < us.length) (h2 : j < vs.length), SeqAt.EqAt A s us[j] vs[j] (e j)) ∧ ((List.range us.length).all e) = c := by
  induction h with
  | nil =>
    intro us vs r1 r2
    cases r1
    cases r2
    exact ⟨rfl, fun _ => true, fun j h1 => absurd h1 (Nat.not_lt_zero j), rfl⟩
  | @cons x y xs ys b c h1 _ ih =>
    intro us vs r1 r2
    cases r1 with
    | @cons _ u _ us ru rus =>
      cases r2 with
      | @cons _ v _ vs rv rvs =>
        obtain ⟨l, e, q, z⟩ := ih rus rvs
        refine ⟨congrArg (· + 1) l, fun j => match j with | 0 => b | j + 1 => e j, fun j h1' h2' => ?_, ?_⟩
        · cases j with
          | zero => exact h1.at I hu ru rv
          | succ j => exact q j (Nat.lt_of_succ_lt_succ h1') (Nat.lt_of_succ_lt_succ h2')
        · rw [List.length_cons, List.range_succ_eq_map, List.all_cons, List.all_map]
          exact congrArg (b && ·) z
theorem op_eqX {K : Frag} (hK : X.K = K) (hu : X.A.units + 128 < cLine) : OpR X (compareOp .Eq) (rEqX K) := by
  subst hK
  intro pins s σ H x y v u Q I rx ry h
  obtain ⟨a, b, xs, ys, c, rfl, rfl, hs, e1, q⟩ := h
  obtain rfl : v = Value.ref a := rx
  obtain rfl : u = Value.ref b := ry
  have hu1 : X.A.in1.units + 64 < cLine := by
    show X.A.units + 1 + 64 < cLine
    omega
  rcases hs with ⟨sa, sb⟩ | ⟨sa, sb⟩
  · obtain ⟨us, r1, ⟨o1, ho1, hc1, n1, hd1⟩, _⟩ := I.tuple sa
    obtain ⟨vs, r2, ⟨o2, ho2, hc2, n2, hd2⟩, _⟩ := I.tuple sb
    obtain ⟨l, e, he, z⟩ := e1.at I hu1 r1 r2
    refine SeqAt.eq_tupleAt (items := us.toArray) (items2 := vs.toArray) (e := e) ⟨o1, ho1, hc1, n1, hd1⟩ ⟨o2, ho2, hc2, n2, hd2⟩ (by omega) (fun j h1 h2 => he j h1 h2) ?_
    have w : ((List.range (min us.toArray.size vs.toArray.size)).all e && us.toArray.size == vs.toArray.size) = c := by
      rw [List.size_toArray, List.size_toArray, ← l, Nat.min_self, z, beq_self_eq_true, Bool.and_true]
    rw [w]
    exact ⟨.bl c, H, I, rfl, q⟩
  · obtain ⟨us, r1, ⟨o1, n1, ho1, hc1, _, hd1⟩, _⟩ := I.list sa
    obtain ⟨vs, r2, ⟨o2, n2, ho2, hc2, _, hd2⟩, _⟩ := I.list sb
    obtain ⟨l, e, he, z⟩ := e1.at I hu1 r1 r2
    refine SeqAt.eq_listAt (items := us.toArray) (items2 := vs.toArray) (e := e) ⟨o1, ho1, hc1, n1, hd1⟩ ⟨o2, ho2, hc2, n2, hd2⟩ (by rw [List.size_toArray, List.size_toArray]; exact l) (by omega) (fun j h1 h2 => he j h1 h2) ?_
    rw [List.size_toArray, z]
    exact ⟨.bl c, H, I, rfl, q⟩
theorem op_neX {K : Frag} (hK : X.K = K) (hu : X.A.units + 128 < cLine) : OpR X (compareOp .NotEq) (rNeX K) := by
  subst hK
  intro pins s σ H x y v u Q I rx ry h
  obtain ⟨a, b, xs, ys, c, rfl, rfl, hs, e1, q⟩ := h
  obtain rfl : v = Value.ref a := rx
  obtain rfl : u = Value.ref b := ry
  have hu1 : X.A.in1.units + 64 < cLine := by
    show X.A.units + 1 + 64 < cLine
    omega
  rcases hs with ⟨sa, sb⟩ | ⟨sa, sb⟩
  · obtain ⟨us, r1, ⟨o1, ho1, hc1, n1, hd1⟩, _⟩ := I.tuple sa
    obtain ⟨vs, r2, ⟨o2, ho2, hc2, n2, hd2⟩, _⟩ := I.tuple sb
    obtain ⟨l, e, he, z⟩ := e1.at I hu1 r1 r2
    refine PySem.W.cmp_ofNotEq (SeqAt.RcNeAt.tuples (items := us.toArray) (items2 := vs.toArray) (e := e) ⟨o1, ho1, hc1, n1, hd1⟩ ⟨o2, ho2, hc2, n2, hd2⟩ (by omega) (fun j h1 h2 => he j h1 h2) _ _ _ _ ?_)
    have w : ((List.range (min us.toArray.size vs.toArray.size)).all e && us.toArray.size == vs.toArray.size) = c := by
      rw [List.size_toArray, List.size_toArray, ← l, Nat.min_self, z, beq_self_eq_true, Bool.and_true]
    rw [w]
    exact ⟨.bl _, H, I, rfl, q⟩
  · obtain ⟨us, r1, ⟨o1, n1, ho1, hc1, _, hd1⟩, _⟩ := I.list sa
    obtain ⟨vs, r2, ⟨o2, n2, ho2, hc2, _, hd2⟩, _⟩ := I.list sb
    obtain ⟨l, e, he, z⟩ := e1.at I hu1 r1 r2
    refine PySem.W.cmp_ofNotEq (SeqAt.RcNeAt.lists (items := us.toArray) (items2 := vs.toArray) (e := e) ⟨o1, ho1, hc1, n1, hd1⟩ ⟨o2, ho2, hc2, n2, hd2⟩ (by rw [List.size_toArray, List.size_toArray]; exact l) (by omega) (fun j h1 h2 => he j h1 h2) _ _ _ _ ?_)
    rw [List.size_toArray, z]
    exact ⟨.bl _, H, I, rfl, q⟩
end
end CH

/-! ### != of own objects by their own ==; enumerate over a tuple; methods with keywords -/
namespace CH
open PySem PySem.Spec PyProof.Rows PySem.W PySem.Calls L2
section
variable {X : Cx} {CX : CXT} {k : Nat} {f C : Addr} {fd : FuncData} {ps : List Str} {sp : Sp} {E : XK}
theorem ne_entry {pg : Program} {w : World} {A : Around} {E : Value → Shared → Prop} {s : Shared} {K : Frag} {x y : Addr} {ox : Obj} {od : Option Obj} {Q : Fin → Shared → Prop} (hu : A.units < cLine) (XI : K.In s.heap) (I : PySem.W.InstAt s.heap x ox C od)
    (hs : findIn K (.ref C) "__eq__" = some (some (.ref f))) (hf : isFn K (.ref f) = true) (h : wpAny (model pg w) A (call (.ref f) [.ref x, .ref y]) (fun v s' => ∃ b, v = .bool b ∧ Q (.done (.ret (.bool (!b)))) s') E s) :
    wpAny (model pg w) A (Builtin.«object.__ne__» ⟨[.ref x, .ref y], []⟩) Q E s := by
  unfold Builtin.«object.__ne__»
  refine wpAny_bind (wpAny_of_eq (a := ((Value.ref x : Value), [Value.ref y])) (by first | rfl | (simp only [slotArgs]; rfl)) ?_)
  refine wpAny_bind (wpAny_cRoomFor hu ?_)
  refine wpAny_bind (ifBound_K XI I hs hf (wpAny_mono h (fun v s' hv => ?_) fun _ _ z => z))
  obtain ⟨b, rfl, hq⟩ := hv
  refine wpAny_bind (wpAny_truthy_bool ?_)
  exact wpAny_pure hq
theorem rn_own {pg : Program} {w : World} {A : Around} {E : Value → Shared → Prop} {s : Shared} {K : Frag} {x y : Addr} {ox oy : Obj} {od od2 : Option Obj} {Q : Value → Shared → Prop} (hu : A.units + 1 < cLine) (XI : K.In s.heap) (I : PySem.W.InstAt s.heap x ox C od) (J : PySem.W.InstAt s.heap y oy C od2)
    (hn : findIn K (.ref C) "__ne__" = some (some (.builtin "object.__ne__"))) (hm : mroIn K C (.type "object") = some true)
    (hs : findIn K (.ref C) "__eq__" = some (some (.ref f))) (hf : isFn K (.ref f) = true) (h : wpAny (model pg w) A.in1 (call (.ref f) [.ref x, .ref y]) (fun v s' => ∃ b, v = .bool b ∧ Q (.bool (!b)) s') E s) : wpAny (model pg w) A (richCompare .NotEq (.ref x) (.ref y)) Q E s := by
  unfold richCompare
  simp only [oneThing_ref]
  refine wpAny_holding (wpAny_bind (wpAny_cRoomFor (by omega) ?_))
  rw [cmpInfo_NotEq]
  dsimp only
  refine wpAny_bind (wpAny_typeOf_ref I.at_ (I.cls ▸ wpAny_bind (wpAny_typeOf_ref J.at_ ?_)))
  rw [J.cls]
  have e0 : (Value.ref C != Value.ref C) = false := by simp
  rw [e0]
  simp only [Bool.false_eq_true, if_false]
  refine wpAny_bind (wpAny_pure ?_)
  simp only [Bool.false_eq_true, if_false]
  unfold tryCompare
  refine wpAny_bind (wpAny_bind ?_)
  simp only [callSpecialIfBound?, bindSpecialIfBound?]
  refine wpAny_holding (wpAny_bind (wpAny_bind (wpAny_bind (I.type.here ((looks_findIn XI hn).here ?_)))))
  simp only [F.cmp_object.ne.bind]
  refine wpAny_bind (wpAny_askSetting (wpAny_ite ?_))
  have fin : wpAny (model pg w) A (call (.builtin "object.__ne__") ([.ref x] ++ [.ref y]) >>= fun v => pure (some v)) (fun r s' => ∃ b, r = some (.bool b) ∧ Q (.bool b) s') E s := by
    refine wpAny_bind (wpAny_call (codeAny_call_builtin F.cmp_object.ne.plain F.cmpEntry_ne (check_slot (rest := [.ref y]) F.cmpKind_ne F.cmpSplit_ne (I.type.andThen (looks_mroIn XI hm)) (F.cmpArgs_ne _ _) ?_)))
    refine ne_entry (A := A.in1) (by show A.units + 1 < cLine; exact hu) XI I hs hf (wpAny_mono h (fun v s' hv => ?_) fun _ _ z => z)
    obtain ⟨b, rfl, hq⟩ := hv
    exact ⟨b, rfl, wpAny_pure ⟨_, rfl, hq⟩⟩
  split
  · refine wpAny_bind (wpAny_pure (wpAny_pure (wpAny_mono fin (fun r s' hr => ?_) fun _ _ z => z)))
    obtain ⟨b, rfl, hq⟩ := hr
    exact wpAny_pure (wpAny_pure hq)
  · refine wpAny_tryCatch (wpAny_bind (wpAny_pure (wpAny_pure (wpAny_mono fin (fun r s' hr => ?_) fun _ _ z => z))))
    obtain ⟨b, rfl, hq⟩ := hr
    exact wpAny_pure (wpAny_pure hq)
theorem op_neO {K : Frag} (hK : X.K = K) (hn : findIn K (.ref C) "__ne__" = some (some (.builtin "object.__ne__"))) (hm : mroIn K C (.type "object") = some true) (hs : findIn K (.ref C) "__eq__" = some (some (.ref f))) (hf : isFn K (.ref f) = true) (F : FnOk X.prog X.w X.K X.mg X.base CX k f fd ps sp) (hr : Room (k + 1) X.A) (hb : Binds X.K fd ps []) (hx : Passes CX X E) :
    OpR X (compareOp .NotEq) (fun x y H Q => ∃ a dx fs b dy gs, x = .ref a ∧ y = .ref b ∧ H a = some (.ins C dx fs) ∧ H b = some (.ins C dy gs) ∧ sp [.ref a, .ref b] H (fun v H' => ∃ z, v = .bl z ∧ Q (.bl (!z)) H') E) := by
  subst hK
  intro pins s σ H x y v u Q I rx ry h
  obtain ⟨a, dx, fs, b, dy, gs, rfl, rfl, ea, eb, q⟩ := h
  obtain rfl : v = Value.ref a := rx
  obtain rfl : u = Value.ref b := ry
  obtain ⟨ox, od, J⟩ := inst_of I ea
  obtain ⟨oy, od2, J2⟩ := inst_of I eb
  refine PySem.W.cmp_ofNotEq (rn_own (by have := hr.un; omega) I.kIn J J2 hn hm hs hf ?_)
  have hl : [Value.ref a, Value.ref b].length = ps.length := F.len _ _ _ _ q
  have bd := hb s [.ref a, .ref b] I.kIn (by rw [List.append_nil]; exact hl)
  rw [List.append_nil] at bd
  refine wpAny_call (codeAny_mono (F.run X.A.in1 X.stack s H ⟨[.ref a, .ref b], []⟩ [.ref a, .ref b] [.ref a, .ref b] _ E hr.in1 I.env0.in1 bd (.cons rfl (.cons rfl .nil)) q) fun rr s' hq => ?_)
  cases rr with
  | error e => exact hx pins σ H s e s' I hq
  | ok fl =>
    cases fl with
    | ret u =>
      obtain ⟨v, H', J', rv, z, rfl, qq⟩ := I.after hq
      obtain rfl : u = Value.bool z := rv
      exact ⟨z, rfl, .bl (!z), H', J', rfl, qq⟩
    | next => exact False.elim hq
    | brk => exact False.elim hq
    | cont => exact False.elim hq
end
end CH
namespace CH
open PySem PySem.Spec PyProof.Rows PySem.W PySem.Calls L2
theorem meets_enum1 {v : Value} {o : Obj} {HH : Heap → Prop} (B : Begins v o HH) :
    Meets (Builtin.«enumerate.__new__» ⟨[.type "enumerate", v], []⟩) (fun _ R s => HH s.heap ∧
      R (.ok (.ret (.ref (s.heap.push o).objs.size))) { s with heap := (s.heap.push o).push { cls := .type "enumerate", data := .fields #[.none, .bool false, .ref s.heap.objs.size, rawInt 0, .none, .none] } }) :=
  .of_wp fun pg w A R s hh => by
    obtain ⟨hp, g, d, tk, os⟩ := s
    obtain ⟨h1, h2⟩ := hh
    have sb := sub_enumerate
    have q1 : ∀ {A1 : Around} {E1 : Value → Shared → Prop} {Q1 : Value → Shared → Prop}, Q1 (.ref hp.objs.size) ⟨hp.push o, g, d, tk, os⟩ → wpAny (model pg w) A1 (pyIter v) Q1 E1 ⟨hp, g, d, tk, os⟩ := fun q => B.iter pg w _ _ ⟨hp, g, d, tk, os⟩ _ h1 q
    wp_walk using q1
    refine wpAny_stack_any fun st => wpAny_pure ?_
    split
    · rename_i c _ _ _ _ _
      cases (c == Value.type "enumerate")
      all_goals wp_walk using q1
      all_goals exact ⟨_, rfl, h2⟩
    · wp_walk using q1
      exact ⟨_, rfl, h2⟩
theorem call_enum1 {pg : Program} {w : World} {A : Around} {E : Value → Shared → Prop} {s : Shared} {v : Value} {o : Obj} {HH : Heap → Prop} {Q : Value → Shared → Prop} (B : Begins v o HH) (h1 : HH s.heap)
    (h : ∀ h', IsEnum h' (s.heap.objs.size + 1) s.heap.objs.size 0 .none → h'.get? s.heap.objs.size = some o → h'.objs.size = s.heap.objs.size + 2 → (∀ b o, s.heap.get? b = some o → h'.get? b = some o) → Q (.ref (s.heap.objs.size + 1)) { s with heap := h' }) :
    wpAny (model pg w) A (call (.type "enumerate") [v]) Q E s := by
  refine callType_new F.called_enumerate (by decide) (F.typeCall_enumerate_1 _) (F.newCall_enumerate_1 _) (fun obj => F.args_object_init_2 obj _) F.entry_enumerate_new (meets_enum1 B) ⟨h1, ?_⟩
  have hz : (s.heap.push o).objs.size = s.heap.objs.size + 1 := Heap.size_push ..
  show _ ∧ _
  rw [hz]
  have he : IsEnum ((s.heap.push o).push { cls := .type "enumerate", data := .fields #[.none, .bool false, .ref s.heap.objs.size, rawInt 0, .none, .none] }) (s.heap.objs.size + 1) s.heap.objs.size 0 .none := by
    have z := Heap.get?_push_size (s.heap.push o) (o := { cls := .type "enumerate", data := .fields #[.none, .bool false, .ref s.heap.objs.size, rawInt 0, .none, .none] }) rfl
    rw [hz] at z
    exact z
  exact ⟨⟨_, he, rfl⟩, h _ he (Heap.get?_push_of_some _ (Heap.get?_push_size _ B.free)) (by rw [Heap.size_push, hz]) fun b o x => Heap.get?_push_of_some _ (Heap.get?_push_of_some _ x)⟩
def ItEt (K : Frag) (a : Addr) : It :=
  ⟨fun i H => ∃ (xs : List V) (x : V), SqT K H a xs ∧ xs[i]? = some x, fun i H v H' => ∃ T x, v = .ref T ∧ H T = none ∧ H' = upd H T (.tup [.int (i : Nat), x]) ∧ ∀ xs, SqT K H a xs → xs[i]? = some x, fun i H => ∃ xs : List V, SqT K H a xs ∧ xs.length = i⟩
theorem turn_enumT {P : Program} {w : World} {K : Frag} {elts : List Expr} {kk : Nat} {tp : Pos} (a e it : Addr) :
    Turn P w K (.Tuple elts kk tp) (ItEt K a) [e, it] e (fun i h => (∃ old, IsEnum h e it ((i : Nat) : Int) old) ∧ h.IsTupleIter it a i ∧ e ≠ it) where
  mem := by simp
  obj := fun i h st b hb => by
    obtain ⟨⟨old, he⟩, ⟨o, ho, hc, hd⟩, _⟩ := st
    have eb : b = e ∨ b = it := by simpa using hb
    rcases eb with z | z
    · rw [z]; exact ⟨_, he, fun v q => nomatch q⟩
    · rw [z]; exact ⟨o, ho, fun v q => by rw [hd] at q; cases q⟩
  keep := fun i h h' st k => ⟨⟨st.1.choose, k e (by simp) _ st.1.choose_spec⟩, st.2.1.at fun o q => k it (by simp) o q, st.2.2⟩
  item := by
    intro X hP hw hK hc i pins s σ H E I hf st hg
    subst hP hw hK
    obtain ⟨⟨old, he⟩, hit, hne⟩ := st
    obtain ⟨xs, x, hq, hx⟩ := hg
    obtain ⟨its, rv, p, hz⟩ := I.tuple hq
    obtain ⟨u, hu, ru⟩ := rv.get hx
    have hel : e < s.heap.objs.size := Heap.lt_size he
    have hil : it < s.heap.objs.size := by obtain ⟨_, q, _⟩ := hit; exact Heap.lt_size q
    have p' : s.heap.IsTuple a its.toArray := p
    have hai : a ≠ it := fun z => by
      obtain ⟨o1, q1, c1, _⟩ := p'
      obtain ⟨o2, q2, c2, _⟩ := hit
      rw [z, q2] at q1
      cases q1
      rw [c2] at c1
      exact absurd (Value.type.inj c1) (by decide)
    have hae : a ≠ e := fun z => by
      obtain ⟨o1, q1, c1, _⟩ := p'
      have q2 : s.heap.get? e = some _ := he
      rw [z, q2] at q1
      cases q1
      exact absurd (Value.type.inj c1) (by decide)
    have hi : i < its.toArray.size := by
      rw [List.size_toArray]
      exact (List.getElem?_eq_some_iff.mp hu).1
    refine wpAny_pyNext_enum_itemD (Draws.tuple (A := X.A.in1) (I.ok.hd hc) it a hai its.toArray) he ⟨hit, p'⟩ hi hne (by simp; exact ⟨hne, fun z => hae z.symm⟩) fun y h' tk hy ho hit' hT hsz hk => ?_
    have ey : y = u := by
      have z : its[i]? = some y := by simpa using hy
      rw [hu] at z
      exact (Option.some.inj z).symm
    subst ey
    refine ⟨_, rfl, wpAny_letOwnedTupleGo_enum (s := { s with heap := h', toks := tk + 1 }) ho fun h2 he2 sb => ?_⟩
    have hT2 : h2.get? s.heap.objs.size = some { cls := .type "tuple", data := .seq #[.int i tk, y] } := (sb.2 _ (Nat.ne_of_gt hel)).trans hT
    have new : ObjOk X.prog X.w (upd H s.heap.objs.size (.tup [.int (i : Nat), x])) h2 s.heap.objs.size (.tup [.int (i : Nat), x]) := ⟨by show 2 ≤ sizeLine; decide, [.int i tk, y], .cons ⟨_, rfl⟩ (.cons ru .nil), ⟨_, hT2, rfl, _, rfl⟩⟩
    have I1 : Inv X pins σ (upd H s.heap.objs.size (.tup [.int (i : Nat), x])) { s with heap := h2, toks := tk + 1 } :=
      I.turnedNew (ch := [e, it]) (fun b ob hb q => (sb.2 b (fun z => hb (by simp [z]))).trans (hk b ob (fun z => hb (by simp [z])) (fun z => hb (by simp [z])) q)) hf (Nat.le_refl _) new
    refine ⟨.ref s.heap.objs.size, _, I1, rfl, ⟨_, x, rfl, I.hok.fresh (Nat.le_refl _), rfl, fun ys hy => by rw [I.tuple_inj hy hq]; exact hx⟩, ⟨⟨y, ?_⟩, hit'.1.at fun o q => (sb.2 it (Ne.symm hne)).trans q, hne⟩, fun b hb => ?_⟩
    · have e1 : ((i + 1 : Nat) : Int) = (i : Int) + 1 := by omega
      rw [e1]
      exact he2
    · have hb' : b < s.heap.objs.size := by
        have eb : b = e ∨ b = it := by simpa using hb
        rcases eb with z | z
        · rw [z]; exact hel
        · rw [z]; exact hil
      rw [upd_ne (Nat.ne_of_lt hb')]
      exact (hf b hb).1
  done := by
    intro X hP hw hK hc i pins s σ H E I hf st hg
    subst hP hw hK
    obtain ⟨⟨old, he⟩, hit, hne⟩ := st
    obtain ⟨xs, hq, hx⟩ := hg
    obtain ⟨its, rv, p, hz⟩ := I.tuple hq
    obtain ⟨f0, f1, f2, f3, f4, f5⟩ := hf it (by simp)
    have hl := rv.length
    have p' : s.heap.IsTuple a its.toArray := p
    have hai : a ≠ it := fun z => by
      obtain ⟨o1, q1, c1, _⟩ := p'
      obtain ⟨o2, q2, c2, _⟩ := hit
      rw [z, q2] at q1
      cases q1
      rw [c2] at c1
      exact absurd (Value.type.inj c1) (by decide)
    have hi : i = its.toArray.size := by
      rw [List.size_toArray]
      omega
    subst hi
    exact wpAny_pyNext_enum_endD (Draws.tuple (A := X.A.in1) (I.ok.hd hc) it a hai its.toArray) he ⟨hit, p'⟩ fun h' eb => ⟨rfl, I.turned (t' := s.toks) (fun b o hb e => eb b o hb e) f0 f1 f3 f4 f5⟩
  self := fun A i s Q E st h => wpAny_pyIter_enum st.1.choose_spec h
def iEnumT (K : Frag) (ta : TA) : TI := fun σ H R => ta σ H fun vs H1 => ∃ a xs, vs = [.ref a] ∧ SqT K H1 a xs ∧ R (ItEt K a) H1
theorem pi_enumT {X : Cx} {K : Frag} {e : Expr} {ta : TA} {p pos tp : Pos} {elts : List Expr} {kk : Nat} (hK : X.K = K) (hg : Gl X "enumerate") (hm : X.mg "enumerate" = none) (ha : PA X [e] ta) (hs : starEach [e] X.env = [(false, eval e X.env)] := by rfl) :
    PI X (.Tuple elts kk tp) (.Call (.Name "enumerate" p) [e] [] pos) (iEnumT K ta) := by
  subst hK
  refine ⟨fun pins s σ H R I h => ?_⟩
  refine Call_ (ld_blt I hg hm boot_enumerate (PyProof.Rows.callWith_type1 (thn (ha.run pos pins s σ H _ I h) fun us s1 hh => ?_) hs rfl))
  obtain ⟨vs, H1, I1, r1, a, xs, ex, hq, q⟩ := hh
  subst ex
  cases r1 with
  | cons r rr =>
    cases rr
    cases r
    obtain ⟨its, rv, p', hz⟩ := I1.tuple hq
    refine call_enum1 (begins_tuple a its.toArray) p' fun h' he hit hsz hk => wpAny_pyIter_enum he ?_
    have I2 : Inv X pins σ H1 { s1 with heap := h' } := I1.kept (t' := s1.toks) hk
    refine ⟨s1.heap.objs.size + 1, [s1.heap.objs.size + 1, s1.heap.objs.size], _, _, H1, rfl, I2, turn_enumT a (s1.heap.objs.size + 1) s1.heap.objs.size, ⟨⟨.none, he⟩, ⟨_, hit, rfl, rfl⟩, Nat.succ_ne_self _⟩, fun b hb => ?_, q⟩
    have hle : s1.heap.objs.size ≤ b := by
      have eb : b = s1.heap.objs.size + 1 ∨ b = s1.heap.objs.size := by simpa using hb
      rcases eb with z | z
      · rw [z]; exact Nat.le_add_right _ _
      · rw [z]; exact Nat.le_refl _
    exact I1.fpOk hle (I1.hok.fresh hle)
theorem walk_enumT {K : Frag} {a : Addr} {xs : List V} : Walk (ItEt K a) xs.length (fun H => SqT K H a xs) (YPair (fun i => some (.int (i : Nat))) (fun i => xs[i]?)) := by
  refine ⟨fun i _ hi q => ⟨xs, xs[i], q, by simp [hi]⟩, fun _ q => ⟨xs, q, rfl⟩, fun i H v H' _ q y => ?_⟩
  obtain ⟨T, x, h1, h2, h3, h4⟩ := y
  exact ⟨T, .int (i : Nat), x, h1, h2, h3, rfl, h4 xs q⟩
end CH
namespace CH
open PySem PySem.Spec PyProof.Rows PySem.W PySem.Calls L2
/-- o.m(e, .., k = v, ..) -/
def tMethN (C : Addr) (m : Str) (n j : Nat) (sp : Sp) (gV : List V → List V → List V) (E : XK) (ta : TE) (t tk : TA) : TE := fun σ H Q => ta σ H fun x H1 => ∃ a dx fs, x = .ref a ∧ H1 a = some (.ins C dx fs) ∧ fs.lookup m = none ∧ t σ H1 fun vs H2 => tk σ H2 fun zs H3 => vs.length = n ∧ zs.length = j ∧ sp (gV (x :: vs) zs) H3 Q E
section
variable {X : Cx} {CX : CXT} {k n : Nat} {f C : Addr} {fd : FuncData} {ps ks : List Str} {sp : Sp} {E : XK} {m : Str} {pos apos : Pos} {e o : Expr} {es : List Expr} {kws : List Keyword} {ta : TE} {t tk : TA} {g : List Value → List Value → List Value} {gV : List V → List V → List V}
theorem pe_methN {pl : Sem Bool} (he : PE X o ta) (c : Cls X.K C) (hm : Meth X.K C m f) (F : FnOk X.prog X.w X.K X.mg X.base CX k f fd ps sp) (hr : Room k X.A) (hb : KBn X.K fd ps (n + 1) ks g gV) (hx : Passes CX X E)
    (ha : PA X (e :: es) t) (hkw : PK X kws tk) (hall : (backToKw pos (keywordEach kws X.env)).all (·.1.isSome) = true := by rfl) (hks : (backToKw pos (keywordEach kws X.env)).filterMap (·.1) = ks := by rfl)
    (hst : starEach (e :: es) X.env = (false, eval e X.env) :: starEach es X.env := by rfl)
    (hpl : ((backTo pos (starEach (e :: es) X.env)).any (·.1) || (backToKw pos (keywordEach kws X.env)).any (·.1.isNone)) = false := by rfl)
    (ht : eval (.Call (.Attribute o m apos) (e :: es) kws pos) X.env = (eval o X.env >>= fun ov => standAt apos.atName >>= fun _ => holding [ov] (getMethod ov m pl) >>= fun r => callWith pos r.1 r.2 (backTo pos (starEach (e :: es) X.env)) (backToKw pos (keywordEach kws X.env))) := by rfl) :
    PE X (.Call (.Attribute o m apos) (e :: es) kws pos) (tMethN C m n ks.length sp gV E ta t tk) := by
  refine ⟨fun pins s σ H Q I h => PySem.W.methodCall_KW (pl := pl) (thn (he.run pins s σ H _ I h) fun u s1 hh => ?_) ht⟩
  obtain ⟨_, H1, I1, rx, a, dx, fs, rfl, ea, l, q⟩ := hh
  obtain rfl : u = Value.ref a := rx
  refine getmeth_ok I1 ea c hm l (PySem.W.callWith_KW (first := [.ref a]) (h₀ := X.base) I1.ok.mod.kin hm.kp hall (thn (ha.run pos pins s1 σ H1 _ I1 q) fun us s2 hh => ?_) hpl hst)
  obtain ⟨vs, H2, I2, r, q2⟩ := hh
  refine thn (hkw.run pos pins s2 σ H2 _ I2 q2) fun ws s3 hh => ?_
  obtain ⟨zs, H3, I3, rz, l1, l2, q3⟩ := hh
  refine ⟨I3.kIn, ?_⟩
  rw [hks]
  exact run_fnN (us := .ref a :: us) (vs := .ref a :: vs) F hr hb hx I3 (.cons rfl r) rz (congrArg (· + 1) l1) l2 q3
end
end CH

/-! ### more == : own objects with others, dicts, several readings; in over data; += at a list's place -/
namespace CH
open PySem PySem.Spec PyProof.Rows PySem.W PySem.Calls L2
section
variable {X : Cx} {CX : CXT} {k : Nat} {f C : Addr} {fd : FuncData} {ps : List Str} {sp : Sp} {E : XK}
theorem op_or {c : CmpOp} {r r' : R2} (h : OpR X (compareOp c) r) (h' : OpR X (compareOp c) r') : OpR X (compareOp c) (fun x y H Q => r x y H Q ∨ r' x y H Q) := by
  intro pins s σ H x y v u Q I rx ry q
  rcases q with q | q
  · exact h pins s σ H x y v u Q I rx ry q
  · exact h' pins s σ H x y v u Q I rx ry q
theorem op_eqOther {K : Frag} (hK : X.K = K) (hs : findIn K (.ref C) "__eq__" = some (some (.ref f))) (hf : isFn K (.ref f) = true) (F : FnOk X.prog X.w X.K X.mg X.base CX k f fd ps sp) (hr : Room k X.A) (hb : Binds X.K fd ps []) (hx : Passes CX X E) :
    OpR X (compareOp .Eq) (fun x y H Q => ∃ a dx fs t, x = .ref a ∧ H a = some (.ins C dx fs) ∧ TyX K H y t ∧ subIn K t (.ref C) = some false ∧ sp [.ref a, y] H (fun v H' => ∃ z, v = .bl z ∧ Q (.bl z) H') E) := by
  subst hK
  intro pins s σ H x y v u Q I rx ry h
  obtain ⟨a, dx, fs, t, rfl, ea, ty, hn, q⟩ := h
  obtain rfl : v = Value.ref a := rx
  obtain ⟨ox, od, J⟩ := inst_of I ea
  obtain ⟨Pt, Kx, hP, _⟩ := kit_of I ry ty
  obtain ⟨m, hnn, _⟩ := I.loc
  have Fr0 : Fr X.base X.env.locals s.heap m := ⟨hnn, I.bk, Nat.le_trans I.ok.bsz I.ok.above⟩
  refine PySem.W.cmp_ofEq (PySem.W.cmp_K (op := .Eq) hr.units0 Fr0 I.ok.mod.kin J (Kx.ty _ _ I.kIn hP) (by unfold notFirst; rw [hn]; simp) hs hf ?_)
  have hd : Vals ([] : List V) ([] : List Value) := .nil
  refine wpAny_mono (run_fn (us := [.ref a, u]) (vs := [.ref a, y]) F hr hb hd hx I (.cons rfl (.cons ry .nil)) (by rw [List.append_nil]; exact q)) (fun r s' hq => ?_) fun _ _ z => z
  obtain ⟨v, H', J', rv, z, rfl, qq⟩ := hq
  obtain rfl : r = Value.bool z := rv
  exact ⟨.bl z, H', J', rfl, qq⟩
/-- == of two dicts of the same two keys -/
def rEqK2 (K : Frag) : R2 := fun x y H Q => ∃ a b k1 k2 x1 x2 y1 y2 b1 b2, x = .ref a ∧ y = .ref b ∧ H a = some (.dK [(k1, x1), (k2, x2)]) ∧ H b = some (.dK [(k1, y1), (k2, y2)]) ∧ k1 ≠ k2 ∧ E1 K H x1 y1 b1 ∧ E1 K H x2 y2 b2 ∧ Q (.bl (b1 && b2)) H
theorem op_eqK2 {K : Frag} (hK : X.K = K) (hu : X.A.units + 128 < cLine) : OpR X (compareOp .Eq) (rEqK2 K) := by
  subst hK
  intro pins s σ H x y v u Q I rx ry h
  obtain ⟨a, b, k1, k2, x1, x2, y1, y2, b1, b2, rfl, rfl, ea, eb, hne, e1, e2, q⟩ := h
  obtain rfl : v = Value.ref a := rx
  obtain rfl : u = Value.ref b := ry
  obtain ⟨_, ya, va, ra, da⟩ := (show ObjOk X.prog X.w H s.heap a (.dK [(k1, x1), (k2, x2)]) from I.hok a _ ea)
  obtain ⟨_, yb, vb, rb, db⟩ := (show ObjOk X.prog X.w H s.heap b (.dK [(k1, y1), (k2, y2)]) from I.hok b _ eb)
  have hu1 : X.A.in1.units + 64 < cLine := by
    show X.A.units + 1 + 64 < cLine
    omega
  have v1 : RelO (some y1) (valueAt vb k1) := by
    have z := rb.val k1
    rwa [valV_pos rfl] at z
  have v2 : RelO (some y2) (valueAt vb k2) := by
    have z := rb.val k2
    rwa [valV_neg hne, valV_pos rfl] at z
  obtain ⟨w1, hw1, rw1⟩ := v1.some_of
  obtain ⟨w2, hw2, rw2⟩ := v2.some_of
  have hits : PySem.W.KeqHits X.A.in1 s vb va (b1 && (b2 && true)) ∧ va.length = vb.length := by
    have hl : va.length = vb.length := ra.length.symm.trans rb.length
    refine ⟨?_, hl⟩
    unfold KV at ra
    cases ra with
    | @cons _ q1 _ _ h1 t1 =>
      cases t1 with
      | @cons _ q2 _ _ h2 t2 =>
        cases t2
        obtain ⟨c1, u1⟩ := q1
        obtain ⟨c2, u2⟩ := q2
        obtain ⟨g1, g2⟩ := h1
        obtain ⟨g3, g4⟩ := h2
        obtain rfl : k1 = c1 := g1
        obtain rfl : k2 = c2 := g3
        exact .hit hw1 (e1.at I hu1 g2 rw1) (.hit hw2 (e2.at I hu1 g4 rw2) .nil)
  refine PySem.W.keq_eq (knd := mixKind X.prog X.w) (r := b1 && (b2 && true)) ya yb da db (by omega) (fun _ => hits.1) ?_
  have e : (va.length == vb.length && (b1 && (b2 && true))) = (b1 && b2) := by
    rw [hits.2, beq_self_eq_true, Bool.true_and, Bool.and_true]
  rw [e]
  exact ⟨.bl (b1 && b2), H, I, rfl, q⟩
theorem ko_inD {K : Frag} (hK : X.K = K) (hu : X.A.units + 65 < cLine) : OpR X (compareOp .In) (rInD K) := by subst hK; exact op_inD hu
theorem ko_notInD {K : Frag} (hK : X.K = K) (hu : X.A.units + 65 < cLine) : OpR X (compareOp .NotIn) (rNotInD K) := by subst hK; exact op_notInD hu
/-- a list's item by a place from 0 on -/
def rGetL (K : Frag) : V → V → Hp → VK → Prop := fun x y H Q => ∃ p xs j v, x = .ref p ∧ y = .int (j : Nat) ∧ SqL K H p xs ∧ xs[j]? = some v ∧ Q v H
theorem get_list {K : Frag} (hK : X.K = K) : PGet X (rGetL K) := by
  subst hK
  intro pins s σ H o i ov iv Q I ro ri h
  obtain ⟨p, xs, j, v, rfl, rfl, hq, he, q⟩ := h
  cases ro
  obtain ⟨t, rfl⟩ := ri
  obtain ⟨its, r, pl, hz⟩ := I.list hq
  obtain ⟨w, ew, rw'⟩ := r.get he
  have hl := r.length
  have hn := line63
  have hj := (List.getElem?_eq_some_iff.mp ew).1
  exact wpAny_getItem_list pl.isList (by omega) (by omega) (by rw [Int.toNat_natCast]; simpa using ew) ⟨v, H, I, rw', q⟩
end
end CH

namespace CH
open PySem PySem.Spec PyProof.Rows L2
/-! ### readings, one a primitive -/
section
variable {K : PySem.W.Frag} {σ : L2.St} {H H1 H2 : Hp} {Q : VK} {D : Ends} {x y z v : V} {ta tb tc te to ti : TE} {t u : TT} {r r' : R2} {g : TG} {A B : Prop} {a p C dx : Addr} {fs : List (Str × V)} {f : Str}
theorem q_seq {t u : TS} (h : t { D with nx := u D } σ H) : tSeq t u D σ H := h
theorem q_next (h : D.nx σ H) : tNext D σ H := h
theorem q_asg (h : te σ H fun x H1 => g x σ H1 D.nx) : tAsg te g D σ H := h
theorem q_drop (h : te σ H fun _ H1 => D.nx σ H1) : tDrop te D σ H := h
theorem q_ret (h : te σ H D.rt) : tRet te D σ H := h
theorem q_retN (h : D.rt .non H) : tRetN D σ H := h
theorem q_if {c : TT} {t u : TS} (h : c σ H fun b H1 => if b = true then t D σ H1 else u D σ H1) : tIfS c t u D σ H := h
theorem q_brk (h : D.bk σ H) : tBreak D σ H := h
theorem q_cont (h : D.ct σ H) : tCont D σ H := h
theorem q_gname {i : Nat} {Q : L2.St → Hp → Prop} (h : Q (σ.set i (some v)) H) : gName i v σ H Q := h
theorem q_gsub {s : V → V → V → Hp → (Hp → Prop) → Prop} {Q : L2.St → Hp → Prop} (h : to σ H fun o H1 => ti σ H1 fun i H2 => s o i v H2 fun H3 => Q σ H3) : gSub to ti s v σ H Q := h
theorem q_gnil {Q : L2.St → Hp → Prop} (h : Q σ H) : gNil [] σ H Q := ⟨rfl, h⟩
theorem q_gcons {t : TG} {u : TGs} {r : List V} {Q : L2.St → Hp → Prop} (h : t v σ H fun σ' H' => u r σ' H' Q) : gCons t u (v :: r) σ H Q := ⟨v, r, rfl, h⟩
theorem q_gtup {n : Nat} {t : TGs} {xs : List V} {Q : L2.St → Hp → Prop} (h1 : SqT K H a xs) (h2 : xs.length = n) (h : t xs σ H Q) : gTup K n t (.ref a) σ H Q := ⟨a, xs, rfl, h1, h2, h⟩
theorem q_var {i : Nat} (e : σ[i]? = some (some v)) (h : Q v H) : tVar i σ H Q := ⟨v, e, h⟩
theorem q_c (h : Q v H) : tC v σ H Q := h
theorem q_op (h : ta σ H fun x H1 => tb σ H1 fun y H2 => r x y H2 Q) : tOp r ta tb σ H Q := h
theorem q_un {r : V → Hp → VK → Prop} (h : ta σ H fun x H1 => r x H1 Q) : tUn r ta σ H Q := h
theorem q_I {c : Int → Int → Prop} {gg : Int → Int → V} {i j : Int} (hc : c i j) (h : Q (gg i j) H) : rI c gg (.int i) (.int j) H Q := ⟨i, j, rfl, rfl, hc, h⟩
theorem q_I0 {gg : Int → Int → V} {i j : Int} (h : Q (gg i j) H) : rI0 gg (.int i) (.int j) H Q := ⟨i, j, rfl, rfl, h⟩
theorem q_U {gg : Int → V} {i : Int} (h : Q (gg i) H) : rU gg (.int i) H Q := ⟨i, rfl, h⟩
theorem q_eqI {i j : Int} (h : Q (.bl (decide (i = j))) H) : rEq (.int i) (.int j) H Q := ⟨rfl, by
  have e : decide (V.int i = V.int j) = decide (i = j) := by simp
  rw [e]; exact h⟩
theorem q_eqS {i j : Str} (h : Q (.bl (decide (i = j))) H) : rEq (.str i) (.str j) H Q := ⟨rfl, by
  have e : decide (V.str i = V.str j) = decide (i = j) := by simp
  rw [e]; exact h⟩
theorem q_eqB {i j : Bool} (h : Q (.bl (decide (i = j))) H) : rEq (.bl i) (.bl j) H Q := ⟨rfl, by
  have e : decide (V.bl i = V.bl j) = decide (i = j) := by simp
  rw [e]; exact h⟩
theorem q_eq0 (h1 : scal x y = true) (h2 : ¬ x = y) (h : Q (.bl false) H) : rEq x y H Q := ⟨h1, by rw [decide_eq_false h2]; exact h⟩
theorem q_neI {i j : Int} (h : Q (.bl (!decide (i = j))) H) : rNe (.int i) (.int j) H Q := ⟨rfl, by
  have e : decide (V.int i = V.int j) = decide (i = j) := by simp
  rw [e]; exact h⟩
theorem q_neS {i j : Str} (h : Q (.bl (!decide (i = j))) H) : rNe (.str i) (.str j) H Q := ⟨rfl, by
  have e : decide (V.str i = V.str j) = decide (i = j) := by simp
  rw [e]; exact h⟩
theorem q_neB {i j : Bool} (h : Q (.bl (!decide (i = j))) H) : rNe (.bl i) (.bl j) H Q := ⟨rfl, by
  have e : decide (V.bl i = V.bl j) = decide (i = j) := by simp
  rw [e]; exact h⟩
theorem q_ne0 (h1 : scal x y = true) (h2 : ¬ x = y) (h : Q (.bl true) H) : rNe x y H Q := ⟨h1, by rw [decide_eq_false h2]; exact h⟩
theorem q_ixL {xs : List V} {i : Int} (h : SqL K H p xs) (ha : atI xs i = some v) (q : Q v H) : rIxL K (.ref p) (.int i) H Q := ⟨p, xs, i, v, rfl, rfl, h, ha, q⟩
theorem q_ixT {xs : List V} {i : Int} (h : SqT K H p xs) (ha : atI xs i = some v) (q : Q v H) : rIxT K (.ref p) (.int i) H Q := ⟨p, xs, i, v, rfl, rfl, h, ha, q⟩
theorem q_ixS {s : Str} {i : Int} {c : Nat} (h : s.length ≤ sizeLine) (ha : atI s.cps.toList i = some c) (q : Q (.str ⟨#[c]⟩) H) : rIxS (.str s) (.int i) H Q := ⟨s, i, c, rfl, rfl, h, ha, q⟩
theorem q_setL {xs : List V} {k : Int} {j : Nat} {Q : Hp → Prop} (h : H p = some (.lst xs)) (hk : ixN xs.length k = some j) (q : Q (upd H p (.lst (xs.set j v)))) : rSetL (.ref p) (.int k) v H Q := ⟨p, xs, k, j, rfl, rfl, h, hk, q⟩
theorem q_test {Q : Bool → Hp → Prop} (h : te σ H fun x H' => ∃ k, x = .bl k ∧ Q k H') : tTest te σ H Q := h
theorem q_B {Q : Bool → Hp → Prop} (h : te σ H fun x H' => ∃ k, x = .bl k ∧ Q k H') : tB te σ H Q := h
theorem q_k {P : Bool → Prop} {b : Bool} (h : P b) : ∃ k, V.bl b = .bl k ∧ P k := ⟨b, rfl, h⟩
theorem q_and {Q : Bool → Hp → Prop} (h : t σ H fun c H1 => if c = true then u σ H1 Q else Q false H1) : tAnd t u σ H Q := h
theorem q_or {Q : Bool → Hp → Prop} (h : t σ H fun c H1 => if c = true then Q true H1 else u σ H1 Q) : tOr t u σ H Q := h
theorem q_not {Q : Bool → Hp → Prop} (h : t σ H fun c H1 => Q (!c) H1) : tNot t σ H Q := h
theorem q_andV (h : ta σ H fun x H1 => ∃ c, x = .bl c ∧ if c = true then tb σ H1 Q else Q (.bl false) H1) : tAndV ta tb σ H Q := h
theorem q_orV (h : ta σ H fun x H1 => ∃ c, x = .bl c ∧ if c = true then Q (.bl true) H1 else tb σ H1 Q) : tOrV ta tb σ H Q := h
theorem q_notV (h : ta σ H fun x H1 => ∃ c, x = .bl c ∧ Q (.bl (!c)) H1) : tNotV ta σ H Q := h
theorem q_ifE (h : t σ H fun c H1 => if c = true then ta σ H1 Q else tb σ H1 Q) : tIf t ta tb σ H Q := h
theorem q_chain (h : ta σ H fun x H1 => tb σ H1 fun y H2 => r x y H2 fun z H3 => ∃ k, z = .bl k ∧ (if k = true then tc σ H3 fun w' H4 => r' y w' H4 Q else Q (.bl false) H3)) : tChain r r' ta tb tc σ H Q := h
theorem q_nil {Q : List V → Hp → Prop} (h : Q [] H) : tNil σ H Q := h
theorem q_cons {tr : TA} {Q : List V → Hp → Prop} (h : ta σ H fun x H1 => tr σ H1 fun xs H2 => Q (x :: xs) H2) : tCons ta tr σ H Q := h
theorem q_cb {r : List V → Hp → VK → Prop} {t : TA} (h : t σ H fun vs H1 => r vs H1 Q) : tCB r t σ H Q := h
theorem q_call {sp : Sp} {dvs : List V} {E : XK} {t : TA} (h : t σ H fun vs H1 => sp (vs ++ dvs) H1 Q E) : tCall sp dvs E t σ H Q := h
theorem q_lst {t : TA} (h : t σ H fun xs H1 => xs.length ≤ sizeLine ∧ ∀ p, H1 p = none → Q (.ref p) (upd H1 p (.lst xs))) : tLst t σ H Q := h
theorem q_tup {t : TA} (h : t σ H fun xs H1 => xs.length ≤ sizeLine ∧ ∀ p, H1 p = none → Q (.ref p) (upd H1 p (.tup xs))) : tTup t σ H Q := h
theorem q_new {P : Prop} {n : Nat} (hn : n ≤ 1000) (h : P) : n ≤ sizeLine ∧ P := ⟨Nat.le_trans hn (by decide), h⟩
theorem q_ift (h : A) : if true = true then A else B := iteT h
theorem q_iff (h : B) : if false = true then A else B := iteF h
theorem q_ifd {P : Prop} [Decidable P] (hp : P) (h : A) : if decide P = true then A else B := by rw [decide_eq_true hp]; exact iteT h
theorem q_ifn {P : Prop} [Decidable P] (hp : ¬ P) (h : B) : if decide P = true then A else B := by rw [decide_eq_false hp]; exact iteF h
theorem q_ifs {b : Bool} (h1 : b = true → A) (h2 : b = false → B) : if b = true then A else B := by
  cases b with
  | true => exact iteT (h1 rfl)
  | false => exact iteF (h2 rfl)
theorem q_ifx {P : Prop} [Decidable P] (h1 : P → A) (h2 : ¬ P → B) : if decide P = true then A else B := by
  by_cases h : P
  · rw [decide_eq_true h]; exact iteT (h1 h)
  · rw [decide_eq_false h]; exact iteF (h2 h)
theorem q_fld (h : ta σ H fun x H1 => ∃ a C dx fs v, x = .ref a ∧ H1 a = some (.ins C dx fs) ∧ Cls K C ∧ NoAttr K C f ∧ fs.lookup f = some v ∧ Q v H1) : tFld K ta f σ H Q := h
theorem q_sl {rr : V → Option Int → Option Int → Hp → VK → Prop} {tl th : TO} (h : te σ H fun x H1 => tl σ H1 fun l H2 => th σ H2 fun u H3 => rr x l u H3 Q) : tSl rr te tl th σ H Q := h
theorem q_nopart {Q : Option Int → Hp → Prop} (h : Q none H) : tNoPart σ H Q := h
theorem q_part {Q : Option Int → Hp → Prop} (h : te σ H fun x H1 => ∃ i, x = .int i ∧ Q (some i) H1) : tPart te σ H Q := h
theorem q_i {P : Int → Prop} {i : Int} (h : P i) : ∃ k, V.int i = .int k ∧ P k := ⟨i, rfl, h⟩
theorem q_slL {xs : List V} {lo hi : Option Int} (h : SqL K H p xs) (q : ∀ d, H d = none → Q (.ref d) (upd H d (.lst (cutV xs lo hi)))) : rSlL K (.ref p) lo hi H Q := ⟨p, xs, rfl, h, q⟩
theorem q_slT {xs : List V} {lo hi : Option Int} (h : SqT K H p xs) (hn : ¬ (HT.sIx xs.length 0 lo = 0 ∧ HT.sIx xs.length xs.length hi = xs.length)) (q : ∀ d, H d = none → Q (.ref d) (upd H d (.tup (cutV xs lo hi)))) : rSlT K (.ref p) lo hi H Q := ⟨p, xs, rfl, h, hn, q⟩
theorem q_cat {xs ys : List V} {b : Addr} (h : H p = some (.lst xs)) (h' : H b = some (.lst ys)) (hl : xs.length + ys.length ≤ sizeLine) (q : ∀ d, H d = none → Q (.ref d) (upd H d (.lst (xs ++ ys)))) : rCat (.ref p) (.ref b) H Q := ⟨p, b, xs, ys, rfl, rfl, h, h', hl, q⟩
theorem q_rep {xs : List V} {k : Int} (h : H p = some (.lst xs)) (h1 : -(2 ^ 63) ≤ k) (h2 : k < 2 ^ 63) (hl : xs.length * k.toNat ≤ sizeLine) (q : ∀ d, H d = none → Q (.ref d) (upd H d (.lst (List.replicate k.toNat xs).flatten))) : rRep (.ref p) (.int k) H Q := ⟨p, k, xs, rfl, rfl, h, h1, h2, hl, q⟩
theorem q_append {xs : List V} (h : H p = some (.lst xs)) (hl : xs.length < sizeLine) (q : Q .non (upd H p (.lst (xs ++ [y])))) : rAppend (.ref p) [y] H Q := ⟨p, xs, y, rfl, rfl, h, hl, q⟩
theorem q_bm {T : String} {rr : V → List V → Hp → VK → Prop} {t : TA} (h : to σ H fun x H1 => tyV K T x H1 ∧ t σ H1 fun xs H2 => rr x xs H2 Q) : tBM K T rr to t σ H Q := h
theorem q_tyL {xs : List V} {P : Prop} (h : H p = some (.lst xs)) (q : P) : tyV K "list" (.ref p) H ∧ P := ⟨.inl ⟨rfl, _, SqL.of h⟩, q⟩
theorem q_isB {a b : Bool} (q : Q (.bl (decide (a = b))) H) : rIsB (.bl a) (.bl b) H Q := ⟨a, b, rfl, rfl, q⟩
theorem q_notB {a b : Bool} (q : Q (.bl (!decide (a = b))) H) : rNotB (.bl a) (.bl b) H Q := ⟨a, b, rfl, rfl, q⟩
end
/-! ### the same readings under names -/
def rAddStr : R2 := fun x y H Q => ∃ i j, x = .str i ∧ y = .str j ∧ i.length + j.length ≤ sizeLine ∧ Q (.str (i ++ j)) H
def rLtStr : R2 := fun x y H Q => ∃ i j, x = .str i ∧ y = .str j ∧ Q (.bl (decide (i.cps.toList < j.cps.toList))) H
def rLeStr : R2 := fun x y H Q => ∃ i j, x = .str i ∧ y = .str j ∧ Q (.bl (!decide (j.cps.toList < i.cps.toList))) H
def rInSign : R2 := fun x y H Q => ∃ (c : Nat) (z : Str), x = .str ⟨#[c]⟩ ∧ y = .str z ∧ Q (.bl (decide (c ∈ z.cps.toList))) H
def rIsNon : R2 := fun x y H Q => y = .non ∧ Q (.bl (decide (x = .non))) H
def rNotNon : R2 := fun x y H Q => y = .non ∧ Q (.bl (!decide (x = .non))) H
def rLenA (K : PySem.W.Frag) : List V → Hp → VK → Prop := fun xs H Q => ∃ x n, xs = [x] ∧ LenV K x H n ∧ Q (.int n) H
def rMax2 : List V → Hp → VK → Prop := fun xs H Q => ∃ i j, xs = [.int i, .int j] ∧ Q (.int (if j > i then j else i)) H
def rMin2 : List V → Hp → VK → Prop := fun xs H Q => ∃ i j, xs = [.int i, .int j] ∧ Q (.int (if j < i then j else i)) H
def rIntStr : List V → Hp → VK → Prop := fun xs H Q => ∃ a n, xs = [.str a] ∧ PySem.intText? a = some n ∧ a.length ≤ 640 ∧ Q (.int n) H
section
variable {X : Cx}
theorem op_addStr : OpR X (binaryOp .Add) rAddStr := op_add_str
theorem op_ltStr : OpR X (compareOp .Lt) rLtStr := op_lt_str
theorem op_leStr : OpR X (compareOp .LtE) rLeStr := op_le_str
theorem op_inSign : OpR X (compareOp .In) rInSign := op_in_sign
theorem op_isNon : OpR X (compareOp .Is) rIsNon := op_isN
theorem op_notNon : OpR X (compareOp .IsNot) rNotNon := op_notN
theorem call_lenA : CallR X (.builtin "len") (rLenA X.K) := call_len
theorem call_maxA (hc : X.calm = true) : CallR X (.builtin "max") rMax2 := call_max2 hc
theorem call_minA (hc : X.calm = true) : CallR X (.builtin "min") rMin2 := call_min2 hc
theorem call_intStr : CallR X (.type "int") rIntStr := call_int_str
end
section
variable {K : PySem.W.Frag} {H : Hp} {Q : VK} {x v : V} {p : Addr}
theorem q_addStr {i j : Str} (h : i.length + j.length ≤ sizeLine) (q : Q (.str (i ++ j)) H) : rAddStr (.str i) (.str j) H Q := ⟨i, j, rfl, rfl, h, q⟩
theorem q_ltStr {i j : Str} (q : Q (.bl (decide (i.cps.toList < j.cps.toList))) H) : rLtStr (.str i) (.str j) H Q := ⟨i, j, rfl, rfl, q⟩
theorem q_leStr {i j : Str} (q : Q (.bl (!decide (j.cps.toList < i.cps.toList))) H) : rLeStr (.str i) (.str j) H Q := ⟨i, j, rfl, rfl, q⟩
theorem q_inSign {c : Nat} {z : Str} (q : Q (.bl (decide (c ∈ z.cps.toList))) H) : rInSign (.str ⟨#[c]⟩) (.str z) H Q := ⟨c, z, rfl, rfl, q⟩
theorem q_isNonT (q : Q (.bl true) H) : rIsNon .non .non H Q := ⟨rfl, by rw [decide_eq_true rfl]; exact q⟩
theorem q_isNonF (h : ¬ x = .non) (q : Q (.bl false) H) : rIsNon x .non H Q := ⟨rfl, by rw [decide_eq_false h]; exact q⟩
theorem q_notNonF (q : Q (.bl false) H) : rNotNon .non .non H Q := ⟨rfl, by rw [decide_eq_true rfl]; exact q⟩
theorem q_notNonT (h : ¬ x = .non) (q : Q (.bl true) H) : rNotNon x .non H Q := ⟨rfl, by rw [decide_eq_false h]; exact q⟩
theorem q_lenS {s : Str} (h : s.length ≤ sizeLine) (q : Q (.int (s.length : Nat)) H) : rLenA K [.str s] H Q := ⟨_, _, rfl, ⟨h, rfl⟩, q⟩
theorem q_lenL {xs : List V} (h : SqL K H p xs) (q : Q (.int (xs.length : Nat)) H) : rLenA K [.ref p] H Q := ⟨_, _, rfl, .inl ⟨xs, h, rfl⟩, q⟩
theorem q_lenT {xs : List V} (h : SqT K H p xs) (q : Q (.int (xs.length : Nat)) H) : rLenA K [.ref p] H Q := ⟨_, _, rfl, .inr ⟨xs, h, rfl⟩, q⟩
theorem q_max2 {i j : Int} (q : Q (.int (max i j)) H) : rMax2 [.int i, .int j] H Q := ⟨i, j, rfl, by
  have e : (if j > i then j else i) = max i j := by omega
  rw [e]; exact q⟩
theorem q_min2 {i j : Int} (q : Q (.int (min i j)) H) : rMin2 [.int i, .int j] H Q := ⟨i, j, rfl, by
  have e : (if j < i then j else i) = min i j := by omega
  rw [e]; exact q⟩
theorem q_intStr {a : Str} {n : Int} (h : PySem.intText? a = some n) (hl : a.length ≤ 640) (q : Q (.int n) H) : rIntStr [.str a] H Q := ⟨a, n, rfl, h, hl, q⟩
theorem q_isi {c : V} {t u : Value} {b : Bool} (hc : ClsV c u) (ht : TyX K H x t) (hk : PySem.W.kitOne K t u = some b) (q : Q (.bl b) H) : rIsi K [x, c] H Q := ⟨x, c, t, u, b, rfl, hc, ht, hk, q⟩
end
theorem line_of {n : Nat} (h : n ≤ 16777216) : n ≤ sizeLine := by rw [sizeLine_eq]; exact h
theorem line_lt {n : Nat} (h : n < 16777216) : n < sizeLine := by rw [sizeLine_eq]; exact h
section
variable {K : PySem.W.Frag} {x qual : Str} {params : Arguments} {body : List Stmt} {scope : Scope} {dvs : List V} {f : Addr} {fd : FuncData} {ps : List Str}
/-- f(e, .., k = v, ..): all that have no value by their places are told by their names, in the parameters' order -/
theorem _root_.L2.FunD.kbinds1 (F : FunD K x qual params body scope dvs [] f fd) (n : Nat) (ks : List Str) (hd : dvs ≠ [])
    (h : ∀ (T : Addr) (kV doc pm : Value) (an : Option Addr) (cdv ct : Value) (us its ws : List Value), us.length = n → its.length = dvs.length → ws.length = ks.length →
      ∃ k, bindArgs (PySem.W.fnOf x qual params body scope (.ref T) kV doc pm an cdv ct) ⟨us, ks.zip ws⟩ = seqItems? (.ref T) >>= k ∧ k (some its.toArray) = pure (ps.zip (us ++ ws))) :
    KBn K fd ps n ks (fun us ws => us ++ ws) (fun vs zs => vs ++ zs) := by
  obtain ⟨oc, od, dV, kV, doc, pm, an, cdv, ct, osl, rfl, lk, hcd, hD, hK⟩ := F.ex
  rcases hD with ⟨e, _⟩ | ⟨_, T, o, its, m, rfl, lT, oT, rT⟩
  · exact absurd e hd
  · refine ⟨fun s us ws X l1 l2 => ?_, fun r1 r2 => r1.append r2⟩
    obtain ⟨k, e1, e2⟩ := h T kV doc pm an cdv ct us its ws l1 rT.length.symm l2
    refine BindsTo.of_looks fun M => ?_
    rw [e1]
    exact looks_items X lT oT (.of_pure e2)
end
section
variable {K : PySem.W.Frag} {σ : L2.St} {H : Hp} {Q : VK} {a C : Addr}
theorem q_callN {n m : Nat} {sp : Sp} {gV : List V → List V → List V} {E : XK} {t tk : TA} (h : t σ H fun vs H1 => tk σ H1 fun zs H2 => vs.length = n ∧ zs.length = m ∧ sp (gV vs zs) H2 Q E) : tCallN n m sp gV E t tk σ H Q := h
theorem q_2 {a b c d : Nat} {P : Prop} (h1 : a = b) (h2 : c = d) (h : P) : a = b ∧ c = d ∧ P := ⟨h1, h2, h⟩
theorem q_make {sp : Sp} {dvs : List V} {E : XK} {t : TA} (h : t σ H fun vs H1 => ∀ x dx, H1 x = none → H1 dx = none → dx ≠ x → sp (.ref x :: (vs ++ dvs)) (upd (upd H1 dx (.own x)) x (.ins C dx [])) (fun v H2 => v = .non ∧ Q (.ref x) H2) E) : tMake C sp dvs E t σ H Q := h
theorem q_slS {z : Str} {lo hi : Option Int} (h : z.length ≤ sizeLine) (q : Q (.str (cutS z lo hi)) H) : rSlS (.str z) lo hi H Q := ⟨z, rfl, h, q⟩
end
section
variable {K : PySem.W.Frag} {σ : L2.St} {H : Hp} {D : Ends}
theorem q_for {wi : TI} {g : TG} {tb : TS} (h : wi σ H fun J H1 => ∃ W : Nat → Nat → L2.St → Hp → Prop, (∃ m, W 0 m σ H1) ∧ ∀ i m σ H, W i m σ H →
  (J.stop i H ∧ D.nx σ H) ∨ (J.go i H ∧ ∃ N : L2.St → Hp → Prop, (∀ σ' H', N σ' H' → ∃ m', m' < m ∧ W (i + 1) m' σ' H') ∧ ∀ x H', J.yld i H x H' → g x σ H' fun σ2 H2 => tb { D with nx := N, ct := N, bk := D.nx } σ2 H2)) : tFor wi g tb D σ H := h
theorem q_rng1 {ta : TA} {R : It → Hp → Prop} (h : ta σ H fun vs H1 => ∃ j : Int, vs = [.int j] ∧ -(2 ^ 62) ≤ j ∧ j < 2 ^ 62 ∧ R (Itr 0 j.toNat) H1) : iRng1 ta σ H R := h
theorem q_rng1b {j : Int} {R : Int → Prop} (h1 : -(2 ^ 62) ≤ j) (h2 : j < 2 ^ 62) (h : R j) : ∃ k : Int, [V.int j] = [.int k] ∧ -(2 ^ 62) ≤ k ∧ k < 2 ^ 62 ∧ R k := ⟨j, rfl, h1, h2, h⟩
theorem q_iList {tl : TE} {R : It → Hp → Prop} (h : tl σ H fun x H1 => ∃ a, x = .ref a ∧ (∃ xs, SqL K H1 a xs) ∧ R (Itl K a) H1) : iList K tl σ H R := h
theorem q_iListb {a : Addr} {H : Hp} {xs : List V} {R : Addr → Prop} (h1 : SqL K H a xs) (h : R a) : ∃ b, V.ref a = .ref b ∧ (∃ xs, SqL K H b xs) ∧ R b := ⟨a, rfl, ⟨xs, h1⟩, h⟩
theorem q_iStr {te : TE} {R : It → Hp → Prop} (h : te σ H fun v H1 => ∃ x, v = .str x ∧ R (Its x) H1) : iStr te σ H R := h
theorem q_iStrb {s : Str} {R : Str → Prop} (h : R s) : ∃ x, V.str s = .str x ∧ R x := ⟨s, rfl, h⟩
theorem q_lc {wi : TI} {g : TG} {tt : TT} {te : TE} {vs : List Nat} {Q : VK} (h : wi σ H fun J H1 => ∀ D, H1 D = none → ∃ W : Nat → Nat → Hp → Prop, (∃ m, W 0 m (upd H1 D (.lst []))) ∧ ∀ i m H, W i m H →
  (J.stop i H ∧ Q (.ref D) H) ∨ (J.go i H ∧ ∃ Nx : Hp → Prop, (∀ H', Nx H' → ∃ m', m' < m ∧ W (i + 1) m' H') ∧ ∀ x H', J.yld i H x H' → g x (wipe σ vs) H' fun σ2 H2 => wipe σ2 vs = wipe σ vs ∧ tt σ2 H2 fun b H3 =>
    if b = true then te σ2 H3 fun y H4 => ∃ acc, H4 D = some (.lst acc) ∧ acc.length < sizeLine ∧ Nx (upd H4 D (.lst (acc ++ [y]))) else Nx H3)) : tLc wi g tt te vs σ H Q := h
end

section
variable {σ : L2.St} {H : Hp} {Q : VK} {C : Addr} {m : Str}
theorem q_call0 {sp : Sp} {E : XK} {t : TA} (h : t σ H fun vs H1 => sp vs H1 Q E) : tCall sp [] E t σ H Q := by
  have e : (fun vs H1 => sp (vs ++ []) H1 Q E) = fun vs H1 => sp vs H1 Q E := by
    funext vs H1
    rw [List.append_nil]
  show t σ H fun vs H1 => sp (vs ++ []) H1 Q E
  rw [e]
  exact h
theorem q_make0 {sp : Sp} {E : XK} {t : TA} (h : t σ H fun vs H1 => ∀ x dx, H1 x = none → H1 dx = none → dx ≠ x → sp (.ref x :: vs) (upd (upd H1 dx (.own x)) x (.ins C dx [])) (fun v H2 => v = .non ∧ Q (.ref x) H2) E) : tMake C sp [] E t σ H Q := by
  have e : (fun vs H1 => ∀ x dx, H1 x = none → H1 dx = none → dx ≠ x → sp (.ref x :: (vs ++ [])) (upd (upd H1 dx (.own x)) x (.ins C dx [])) (fun v H2 => v = .non ∧ Q (.ref x) H2) E) = fun vs H1 => ∀ x dx, H1 x = none → H1 dx = none → dx ≠ x → sp (.ref x :: vs) (upd (upd H1 dx (.own x)) x (.ins C dx [])) (fun v H2 => v = .non ∧ Q (.ref x) H2) E := by
    funext vs H1
    rw [List.append_nil]
  show t σ H fun vs H1 => ∀ x dx, H1 x = none → H1 dx = none → dx ≠ x → sp (.ref x :: (vs ++ [])) (upd (upd H1 dx (.own x)) x (.ins C dx [])) (fun v H2 => v = .non ∧ Q (.ref x) H2) E
  rw [e]
  exact h
theorem q_meth0 {sp : Sp} {E : XK} {ta : TE} {t : TA} (h : ta σ H fun x H1 => ∃ a dx fs, x = .ref a ∧ H1 a = some (.ins C dx fs) ∧ fs.lookup m = none ∧ t σ H1 fun vs H2 => sp (x :: vs) H2 Q E) : tMeth C m sp [] E ta t σ H Q := by
  have e : ∀ x, (fun vs H2 => sp (x :: (vs ++ [])) H2 Q E) = fun vs H2 => sp (x :: vs) H2 Q E := fun x => by
    funext vs H1
    rw [List.append_nil]
  show ta σ H fun x H1 => ∃ a dx fs, x = .ref a ∧ H1 a = some (.ins C dx fs) ∧ fs.lookup m = none ∧ t σ H1 fun vs H2 => sp (x :: (vs ++ [])) H2 Q E
  simp only [e]
  exact h
end
/-! ### heaps that grow; comprehensions whose elements change nothing -/
theorem _root_.L2.Same.new {H : Hp} {p : Addr} {o : HO} (h : H p = none) : Same H (upd H p o) := fun b u e => by
  rw [upd_ne (ne_of_none e h)]
  exact e
theorem _root_.L2.Same.snew {H H' : Hp} {p : Addr} {o : HO} (s : Same H H') (h : H p = none) : Same H (upd H' p o) := fun b u e => by
  rw [upd_ne (ne_of_none e h)]
  exact s b u e
theorem _root_.L2.Same.seqT {K : PySem.W.Frag} {H H' : Hp} {a : Addr} {xs : List V} (e : Same H H') (h : SqT K H a xs) : SqT K H' a xs := by
  rcases h with (h | ⟨o, h⟩) | h
  · exact .inl (.inl (e _ _ h))
  · exact .inl (.inr ⟨o, e _ _ h⟩)
  · exact .inr h
theorem wipe_set {σ : L2.St} {i : Nat} {x : Option V} : wipe ((wipe σ [i]).set i x) [i] = wipe σ [i] := by
  show ((σ.set i none).set i x).set i none = σ.set i none
  rw [List.set_set, List.set_set]
theorem lc_grow {J : It} {n : Nat} {G : Hp → Prop} {Y : Nat → Hp → V → Hp → Prop} (w : Walk J n G Y) {g : TG} {te : TE} {vs : List Nat} {σ : L2.St} {H1 : Hp} {D : Addr} {Qd : Hp → Prop} (ys : List V) (hy : ys.length = n) (hn : n ≤ 100000)
    (hG : ∀ H', Same H1 H' → G H') (hD : H1 D = none)
    (he : ∀ k x H2 H' (R : VK), k < n → Same H1 H2 → Y k H2 x H' → (∀ y H4, ys[k]? = some y → Same H2 H4 → R y H4) → g x (wipe σ vs) H' fun σ2 H3 => wipe σ2 vs = wipe σ vs ∧ te σ2 H3 R)
    (hd : ∀ H', Same H1 H' → H' D = some (.lst ys) → Qd H') (gm : ∀ x H' Q Q', (∀ σ H, Q σ H → Q' σ H) → g x (wipe σ vs) H' Q → g x (wipe σ vs) H' Q') :
    ∃ W : Nat → Nat → Hp → Prop, (∃ m, W 0 m (upd H1 D (.lst []))) ∧ ∀ i m H, W i m H →
      (J.stop i H ∧ Qd H) ∨ (J.go i H ∧ ∃ Nx : Hp → Prop, (∀ H', Nx H' → ∃ m', m' < m ∧ W (i + 1) m' H') ∧ ∀ x H', J.yld i H x H' → g x (wipe σ vs) H' fun σ2 H2 => wipe σ2 vs = wipe σ vs ∧ tYes σ2 H2 fun b H3 =>
        if b = true then te σ2 H3 fun y H4 => ∃ acc, H4 D = some (.lst acc) ∧ acc.length < sizeLine ∧ Nx (upd H4 D (.lst (acc ++ [y]))) else Nx H3) := by
  refine lc_it w (fun k H' => Same H1 H' ∧ H' D = some (.lst (ys.take k))) ⟨Same.new hD, by rw [upd_same]; rfl⟩ (fun i H' _ h => hG H' h.1) ?_ ?_
  · rintro k x H2 H' hk ⟨s2, d2⟩ y
    refine gm _ _ _ _ (fun σ2 H3 q => ⟨q.1, by unfold tYes; exact iteT q.2⟩) (he k x H2 H' _ hk s2 y fun v H4 e s4 => ?_)
    have hk' : k < ys.length := by omega
    refine ⟨ys.take k, s4 _ _ d2, ?_, (s2.trans s4).snew hD, ?_⟩
    · rw [List.length_take]
      exact line_lt (by omega)
    · rw [upd_same, List.take_add_one, e]
      rfl
  · rintro H' ⟨s2, d2⟩
    refine hd H' s2 ?_
    rw [d2, List.take_of_length_le (by omega)]
/-- over the signs of a text, each element a function of the sign -/
theorem lc_signs {z : Str} {i : Nat} {te : TE} {σ : L2.St} {H1 : Hp} {D : Addr} {Qd : Hp → Prop} (f : Nat → V) (hn : z.length ≤ 100000) (hD : H1 D = none)
    (he : ∀ c H2 (R : VK), Same H1 H2 → (∀ H4, Same H2 H4 → R (f c) H4) → te ((wipe σ [i]).set i (some (.str ⟨#[c]⟩))) H2 R)
    (hd : ∀ H', Same H1 H' → H' D = some (.lst (z.cps.toList.map f)) → Qd H') :
    ∃ W : Nat → Nat → Hp → Prop, (∃ m, W 0 m (upd H1 D (.lst []))) ∧ ∀ k m H, W k m H →
      ((Its z).stop k H ∧ Qd H) ∨ ((Its z).go k H ∧ ∃ Nx : Hp → Prop, (∀ H', Nx H' → ∃ m', m' < m ∧ W (k + 1) m' H') ∧ ∀ x H', (Its z).yld k H x H' → gName i x (wipe σ [i]) H' fun σ2 H2 => wipe σ2 [i] = wipe σ [i] ∧ tYes σ2 H2 fun b H3 =>
        if b = true then te σ2 H3 fun y H4 => ∃ acc, H4 D = some (.lst acc) ∧ acc.length < sizeLine ∧ Nx (upd H4 D (.lst (acc ++ [y]))) else Nx H3) := by
  refine lc_grow walk_str (z.cps.toList.map f) (by simp) hn (fun _ _ => trivial) hD ?_ hd (fun _ _ _ _ q h => q _ _ h)
  rintro k x H2 H' R hk s2 ⟨rfl, c, hc, rfl⟩ hR
  refine ⟨wipe_set, he c H' R s2 fun H4 s4 => hR _ _ ?_ s4⟩
  rw [List.getElem?_map]
  have e : z.cps.toList[k]? = some c := by simpa using hc
  rw [e]
  rfl
theorem q_ifN {A B : Prop} {b : Bool} (h : if b = true then B else A) : if (!b) = true then A else B := by
  cases b <;> exact h
section
variable {K : PySem.W.Frag}
theorem kt_NoneType_int : PySem.W.kitOne K (.type "NoneType") (.type "int") = some false := kit_ty (by decide +kernel)
theorem kt_NoneType_str : PySem.W.kitOne K (.type "NoneType") (.type "str") = some false := kit_ty (by decide +kernel)
theorem kt_NoneType_bool : PySem.W.kitOne K (.type "NoneType") (.type "bool") = some false := kit_ty (by decide +kernel)
theorem kt_NoneType_list : PySem.W.kitOne K (.type "NoneType") (.type "list") = some false := kit_ty (by decide +kernel)
theorem kt_NoneType_tuple : PySem.W.kitOne K (.type "NoneType") (.type "tuple") = some false := kit_ty (by decide +kernel)
theorem kt_NoneType_dict : PySem.W.kitOne K (.type "NoneType") (.type "dict") = some false := kit_ty (by decide +kernel)
theorem kt_bool_int : PySem.W.kitOne K (.type "bool") (.type "int") = some true := kit_ty (by decide +kernel)
theorem kt_bool_str : PySem.W.kitOne K (.type "bool") (.type "str") = some false := kit_ty (by decide +kernel)
theorem kt_bool_bool : PySem.W.kitOne K (.type "bool") (.type "bool") = some true := kit_ty (by decide +kernel)
theorem kt_bool_list : PySem.W.kitOne K (.type "bool") (.type "list") = some false := kit_ty (by decide +kernel)
theorem kt_bool_tuple : PySem.W.kitOne K (.type "bool") (.type "tuple") = some false := kit_ty (by decide +kernel)
theorem kt_bool_dict : PySem.W.kitOne K (.type "bool") (.type "dict") = some false := kit_ty (by decide +kernel)
theorem kt_int_int : PySem.W.kitOne K (.type "int") (.type "int") = some true := kit_ty (by decide +kernel)
theorem kt_int_str : PySem.W.kitOne K (.type "int") (.type "str") = some false := kit_ty (by decide +kernel)
theorem kt_int_bool : PySem.W.kitOne K (.type "int") (.type "bool") = some false := kit_ty (by decide +kernel)
theorem kt_int_list : PySem.W.kitOne K (.type "int") (.type "list") = some false := kit_ty (by decide +kernel)
theorem kt_int_tuple : PySem.W.kitOne K (.type "int") (.type "tuple") = some false := kit_ty (by decide +kernel)
theorem kt_int_dict : PySem.W.kitOne K (.type "int") (.type "dict") = some false := kit_ty (by decide +kernel)
theorem kt_str_int : PySem.W.kitOne K (.type "str") (.type "int") = some false := kit_ty (by decide +kernel)
theorem kt_str_str : PySem.W.kitOne K (.type "str") (.type "str") = some true := kit_ty (by decide +kernel)
theorem kt_str_bool : PySem.W.kitOne K (.type "str") (.type "bool") = some false := kit_ty (by decide +kernel)
theorem kt_str_list : PySem.W.kitOne K (.type "str") (.type "list") = some false := kit_ty (by decide +kernel)
theorem kt_str_tuple : PySem.W.kitOne K (.type "str") (.type "tuple") = some false := kit_ty (by decide +kernel)
theorem kt_str_dict : PySem.W.kitOne K (.type "str") (.type "dict") = some false := kit_ty (by decide +kernel)
theorem kt_list_int : PySem.W.kitOne K (.type "list") (.type "int") = some false := kit_ty (by decide +kernel)
theorem kt_list_str : PySem.W.kitOne K (.type "list") (.type "str") = some false := kit_ty (by decide +kernel)
theorem kt_list_bool : PySem.W.kitOne K (.type "list") (.type "bool") = some false := kit_ty (by decide +kernel)
theorem kt_list_list : PySem.W.kitOne K (.type "list") (.type "list") = some true := kit_ty (by decide +kernel)
theorem kt_list_tuple : PySem.W.kitOne K (.type "list") (.type "tuple") = some false := kit_ty (by decide +kernel)
theorem kt_list_dict : PySem.W.kitOne K (.type "list") (.type "dict") = some false := kit_ty (by decide +kernel)
theorem kt_tuple_int : PySem.W.kitOne K (.type "tuple") (.type "int") = some false := kit_ty (by decide +kernel)
theorem kt_tuple_str : PySem.W.kitOne K (.type "tuple") (.type "str") = some false := kit_ty (by decide +kernel)
theorem kt_tuple_bool : PySem.W.kitOne K (.type "tuple") (.type "bool") = some false := kit_ty (by decide +kernel)
theorem kt_tuple_list : PySem.W.kitOne K (.type "tuple") (.type "list") = some false := kit_ty (by decide +kernel)
theorem kt_tuple_tuple : PySem.W.kitOne K (.type "tuple") (.type "tuple") = some true := kit_ty (by decide +kernel)
theorem kt_tuple_dict : PySem.W.kitOne K (.type "tuple") (.type "dict") = some false := kit_ty (by decide +kernel)
theorem kt_dict_int : PySem.W.kitOne K (.type "dict") (.type "int") = some false := kit_ty (by decide +kernel)
theorem kt_dict_str : PySem.W.kitOne K (.type "dict") (.type "str") = some false := kit_ty (by decide +kernel)
theorem kt_dict_bool : PySem.W.kitOne K (.type "dict") (.type "bool") = some false := kit_ty (by decide +kernel)
theorem kt_dict_list : PySem.W.kitOne K (.type "dict") (.type "list") = some false := kit_ty (by decide +kernel)
theorem kt_dict_tuple : PySem.W.kitOne K (.type "dict") (.type "tuple") = some false := kit_ty (by decide +kernel)
theorem kt_dict_dict : PySem.W.kitOne K (.type "dict") (.type "dict") = some true := kit_ty (by decide +kernel)
end
theorem R_of {α : Type} {R : α → Hp → Prop} {v v' : α} {H : Hp} (h : R v H) (e : v = v') : R v' H := e ▸ h
section
variable {K : PySem.W.Frag} {H : Hp} {Q : VK}
theorem q_leStr1 {i j : Str} {a b : Nat} (ha : i.cps.toList = [a]) (hb : j.cps.toList = [b]) (q : Q (.bl (decide (a ≤ b))) H) : rLeStr (.str i) (.str j) H Q := ⟨i, j, rfl, rfl, by
  rw [ha, hb]
  have e : (!decide ([b] < [a])) = decide (a ≤ b) := by
    by_cases h : a ≤ b
    · rw [decide_eq_true h, decide_eq_false]
      · rfl
      · intro z
        have := List.cons_lt_cons_iff.mp z
        simp at this
        omega
    · rw [decide_eq_false h, decide_eq_true]
      · rfl
      · exact List.cons_lt_cons_iff.mpr (.inl (by omega))
  rw [e]
  exact q⟩
theorem q_all {a : Addr} {bs : List Bool} (h : SqL K H a (bs.map V.bl)) (q : Q (.bl (bs.all id)) H) : rAll K [.ref a] H Q := ⟨a, bs, rfl, h, q⟩
theorem q_any {a : Addr} {bs : List Bool} (h : SqL K H a (bs.map V.bl)) (q : Q (.bl (bs.any id)) H) : rAny K [.ref a] H Q := ⟨a, bs, rfl, h, q⟩
end
theorem lc_signsB {z : Str} {i : Nat} {te : TE} {σ : L2.St} {H1 : Hp} {D : Addr} {Qd : Hp → Prop} (f : Nat → Bool) (hn : z.length ≤ 100000) (hD : H1 D = none)
    (he : ∀ c H2 (R : VK), Same H1 H2 → (∀ H4, Same H2 H4 → R (.bl (f c)) H4) → te ((wipe σ [i]).set i (some (.str ⟨#[c]⟩))) H2 R)
    (hd : ∀ H', Same H1 H' → H' D = some (.lst ((z.cps.toList.map f).map V.bl)) → Qd H') :
    ∃ W : Nat → Nat → Hp → Prop, (∃ m, W 0 m (upd H1 D (.lst []))) ∧ ∀ k m H, W k m H →
      ((Its z).stop k H ∧ Qd H) ∨ ((Its z).go k H ∧ ∃ Nx : Hp → Prop, (∀ H', Nx H' → ∃ m', m' < m ∧ W (k + 1) m' H') ∧ ∀ x H', (Its z).yld k H x H' → gName i x (wipe σ [i]) H' fun σ2 H2 => wipe σ2 [i] = wipe σ [i] ∧ tYes σ2 H2 fun b H3 =>
        if b = true then te σ2 H3 fun y H4 => ∃ acc, H4 D = some (.lst acc) ∧ acc.length < sizeLine ∧ Nx (upd H4 D (.lst (acc ++ [y]))) else Nx H3) :=
  lc_signs (fun c => .bl (f c)) hn hD he fun H' s e => hd H' s (by rw [e, List.map_map]; rfl)
theorem at_ints (xs : List Int) (P : Int → Prop) {i : Int} (hP : ∀ x ∈ xs, P x) (h0 : 0 ≤ i) (h1 : i < xs.length) : ∃ m, atI (xs.map V.int) i = some (V.int m) ∧ P m := by
  obtain ⟨j, rfl⟩ := Int.eq_ofNat_of_zero_le h0
  have hj : j < xs.length := by omega
  refine ⟨xs[j], atI_nat (by simp [hj]), hP _ (List.getElem_mem hj)⟩
theorem at_ex {α : Type} {xs : List α} {i : Int} (h0 : 0 ≤ i) (h1 : i < xs.length) : ∃ c, atI xs i = some c := by
  obtain ⟨j, rfl⟩ := Int.eq_ofNat_of_zero_le h0
  have hj : j < xs.length := by omega
  exact ⟨xs[j], atI_nat (by simp [hj])⟩
section
variable {K : PySem.W.Frag} {H : Hp} {Q : VK} {x y : V}
theorem q_eqD {d e : PyData} (hd : Dp K H x d) (he : Dp K H y e) (sd : SeqAt.shaped d = true) (se : SeqAt.shaped e = true) (q : Q (.bl (PyData.eqv d e)) H) : rEqD K x y H Q := ⟨d, e, hd, he, sd, se, q⟩
theorem q_neD {d e : PyData} (hd : Dp K H x d) (he : Dp K H y e) (sd : SeqAt.shaped d = true) (se : SeqAt.shaped e = true) (q : Q (.bl (!PyData.eqv d e)) H) : rNeD K x y H Q := ⟨d, e, hd, he, sd, se, q⟩
end
theorem cs_0 : (Str.ofString "0").cps.toList = [48] := by decide +kernel
theorem cs_9 : (Str.ofString "9").cps.toList = [57] := by decide +kernel
theorem cs_a : (Str.ofString "a").cps.toList = [97] := by decide +kernel
theorem cs_z : (Str.ofString "z").cps.toList = [122] := by decide +kernel
theorem str_one {c d : Nat} {s : Str} (h : s.cps.toList = [d]) : ((⟨#[c]⟩ : Str) = s) ↔ c = d := by
  constructor
  · intro e
    rw [← e] at h
    simpa using h
  · intro e
    subst e
    obtain ⟨l⟩ := s
    congr 1
    exact Array.ext' h.symm
theorem str_len (s : Str) : s.cps.toList.length = s.length := Array.length_toList
theorem in_az (c : Nat) : decide (c ∈ (Str.ofString "abcdefghijklmnopqrstuvwxyz").cps.toList) = (decide (97 ≤ c) && decide (c ≤ 122)) := by
  have e : (Str.ofString "abcdefghijklmnopqrstuvwxyz").cps.toList = List.range' 97 26 := by decide +kernel
  rw [e]
  by_cases h : c ∈ List.range' 97 26
  · rw [decide_eq_true h]
    have := List.mem_range'_1.mp h
    simp
    omega
  · rw [decide_eq_false h]
    have h' : ¬ (97 ≤ c ∧ c < 97 + 26) := fun z => h (List.mem_range'_1.mpr z)
    symm
    simp
    omega
theorem in_09 (c : Nat) : decide (c ∈ (Str.ofString "0123456789").cps.toList) = (decide (48 ≤ c) && decide (c ≤ 57)) := by
  have e : (Str.ofString "0123456789").cps.toList = List.range' 48 10 := by decide +kernel
  rw [e]
  by_cases h : c ∈ List.range' 48 10
  · rw [decide_eq_true h]
    have := List.mem_range'_1.mp h
    simp
    omega
  · rw [decide_eq_false h]
    have h' : ¬ (48 ≤ c ∧ c < 48 + 10) := fun z => h (List.mem_range'_1.mpr z)
    symm
    simp
    omega
theorem len_pos {s : Str} (h : ¬ s = Str.ofString "") : 0 < s.length := by
  rcases Nat.eq_zero_or_pos s.length with e | e
  · exact absurd (by
      obtain ⟨l⟩ := s
      have : l = #[] := Array.eq_empty_of_size_eq_zero e
      rw [this]; rfl) h
  · exact e
/-! ### the rules that read the written part, with it named (a comprehension's block has the same) -/
def rListOf (K : PySem.W.Frag) : List V → Hp → VK → Prop := fun xs H Q => ∃ p ys, xs = [.ref p] ∧ (SqL K H p ys ∨ SqT K H p ys) ∧ ∀ l, H l = none → Q (.ref l) (upd H l (.lst ys))
def rTupleOf (K : PySem.W.Frag) : List V → Hp → VK → Prop := fun xs H Q => ∃ p ys, xs = [.ref p] ∧ ((SqL K H p ys ∧ ∀ l, H l = none → Q (.ref l) (upd H l (.tup ys))) ∨ (SqT K H p ys ∧ Q (.ref p) H))
section
variable {X : Cx} {K : PySem.W.Frag}
theorem kx_isi (hK : X.K = K) : CallR X (.builtin "isinstance") (rIsi K) := by subst hK; exact call_isi
theorem kx_isiT (hK : X.K = K) : CallR X (.builtin "isinstance") (rIsiT K) := by subst hK; exact call_isiT
theorem kx_len (hK : X.K = K) : CallR X (.builtin "len") (rLenA K) := by subst hK; exact call_lenA
theorem kx_all (hK : X.K = K) (hc : X.calm = true) : CallR X (.builtin "all") (rAll K) := by subst hK; exact cr_all hc
theorem kx_any (hK : X.K = K) (hc : X.calm = true) : CallR X (.builtin "any") (rAny K) := by subst hK; exact cr_any hc
theorem kx_sum (hK : X.K = K) (hc : X.calm = true) : CallR X (.builtin "sum") (rSum K) := by subst hK; exact cr_sum hc
theorem kx_max (hK : X.K = K) (hc : X.calm = true) : CallR X (.builtin "max") (rMax K) := by subst hK; exact cr_max hc
theorem kx_min (hK : X.K = K) (hc : X.calm = true) : CallR X (.builtin "min") (rMin K) := by subst hK; exact cr_min hc
theorem kx_list (hK : X.K = K) : CallR X (.type "list") (rListOf K) := by subst hK; exact call_list_of
theorem kx_tuple (hK : X.K = K) : CallR X (.type "tuple") (rTupleOf K) := by subst hK; exact call_tuple_of
theorem ko_eqD (hK : X.K = K) (hu : X.A.units + 64 < cLine) : OpR X (compareOp .Eq) (rEqD K) := by subst hK; exact op_eqD hu
theorem ko_neD (hK : X.K = K) (hu : X.A.units + 64 < cLine) : OpR X (compareOp .NotEq) (rNeD K) := by subst hK; exact op_neD hu
theorem ko_in (hK : X.K = K) : OpR X (compareOp .In) (rIn K false) := by subst hK; exact op_in_seq
theorem ko_notIn (hK : X.K = K) : OpR X (compareOp .NotIn) (rIn K true) := by subst hK; exact op_notIn_seq
theorem ki_list (hK : X.K = K) : IxR X (rIxL K) := by subst hK; exact ix_list
theorem ki_tup (hK : X.K = K) : IxR X (rIxT K) := by subst hK; exact ix_tup
theorem ks_list (hK : X.K = K) : SlR X (rSlL K) := by subst hK; exact sl_list
theorem ks_tup (hK : X.K = K) : SlR X (rSlT K) := by subst hK; exact sl_tup
theorem kp_fld {e : Expr} {ta : TE} {f : Str} {pos : Pos} (hK : X.K = K) (he : PE X e ta) (hb : attributeBase e f X.env (eval e X.env) = eval e X.env) : PE X (.Attribute e f pos) (tFld K ta f) := by subst hK; exact pe_fld he hb
theorem kpi_list {tg e : Expr} {tl : TE} (hK : X.K = K) (he : PE X e tl) : PI X tg e (iList K tl) := by subst hK; exact pi_list he
theorem kpi_tup {tg e : Expr} {tl : TE} (hK : X.K = K) (he : PE X e tl) : PI X tg e (iTup K tl) := by subst hK; exact pi_tup he
end
section
variable {K : PySem.W.Frag} {H : Hp} {Q : VK} {p : Addr}
theorem q_listL {xs : List V} (h : SqL K H p xs) (q : ∀ l, H l = none → Q (.ref l) (upd H l (.lst xs))) : rListOf K [.ref p] H Q := ⟨p, xs, rfl, .inl h, q⟩
theorem q_listT {xs : List V} (h : SqT K H p xs) (q : ∀ l, H l = none → Q (.ref l) (upd H l (.lst xs))) : rListOf K [.ref p] H Q := ⟨p, xs, rfl, .inr h, q⟩
theorem q_tupleL {xs : List V} (h : SqL K H p xs) (q : ∀ l, H l = none → Q (.ref l) (upd H l (.tup xs))) : rTupleOf K [.ref p] H Q := ⟨p, xs, rfl, .inl ⟨h, q⟩⟩
theorem q_tupleT {xs : List V} (h : SqT K H p xs) (q : Q (.ref p) H) : rTupleOf K [.ref p] H Q := ⟨p, xs, rfl, .inr ⟨h, q⟩⟩
theorem q_sum {ns : List Int} (h : SqL K H p (ns.map V.int)) (q : Q (.int ns.sum) H) : rSum K [.ref p] H Q := ⟨p, ns, rfl, h, q⟩
end
section
variable {α : Type} {a b c d e : α} {xs : List α}
theorem at0 : atI (a :: xs) 0 = some a := atI_nat (j := 0) rfl
theorem at1 : atI (a :: b :: xs) 1 = some b := atI_nat (j := 1) rfl
theorem at2 : atI (a :: b :: c :: xs) 2 = some c := atI_nat (j := 2) rfl
theorem at3 : atI (a :: b :: c :: d :: xs) 3 = some d := atI_nat (j := 3) rfl
theorem at4 : atI (a :: b :: c :: d :: e :: xs) 4 = some e := atI_nat (j := 4) rfl
end
/-- forget how the heap came to be: what is known of it goes on -/
theorem abs_q {α : Type} {R : Hp → α → Prop} {H : Hp} {Q : α} (F : Hp → Prop) (h : F H) (k : ∀ H', F H' → R H' Q) : R H Q := k H h
theorem abs_s {R : Hp → Prop} {H : Hp} (F : Hp → Prop) (h : F H) (k : ∀ H', F H' → R H') : R H := k H h
section
variable {K : PySem.W.Frag} {H : Hp} {Q : VK} {x y : V}
theorem q_eqDt {d e : PyData} (hd : Dp K H x d) (he : Dp K H y e) (sd : SeqAt.shaped d = true) (se : SeqAt.shaped e = true) (h : PyData.eqv d e = true) (q : Q (.bl true) H) : rEqD K x y H Q := ⟨d, e, hd, he, sd, se, by rw [h]; exact q⟩
theorem q_neDt {d e : PyData} (hd : Dp K H x d) (he : Dp K H y e) (sd : SeqAt.shaped d = true) (se : SeqAt.shaped e = true) (h : PyData.eqv d e = true) (q : Q (.bl false) H) : rNeD K x y H Q := ⟨d, e, hd, he, sd, se, by rw [h]; exact q⟩
end
/-- over a list that stays, each element a function of the item -/
theorem lc_items {K : PySem.W.Frag} {a : Addr} {xs : List V} {i : Nat} {te : TE} {σ : L2.St} {H1 : Hp} {D : Addr} {Qd : Hp → Prop} (f : V → V) (hl : SqL K H1 a xs) (hn : xs.length ≤ 100000) (hD : H1 D = none)
    (he : ∀ x ∈ xs, ∀ H2 (R : VK), Same H1 H2 → (∀ H4, Same H2 H4 → R (f x) H4) → te ((wipe σ [i]).set i (some x)) H2 R)
    (hd : ∀ H', Same H1 H' → H' D = some (.lst (xs.map f)) → Qd H') :
    ∃ W : Nat → Nat → Hp → Prop, (∃ m, W 0 m (upd H1 D (.lst []))) ∧ ∀ k m H, W k m H →
      ((Itl K a).stop k H ∧ Qd H) ∨ ((Itl K a).go k H ∧ ∃ Nx : Hp → Prop, (∀ H', Nx H' → ∃ m', m' < m ∧ W (k + 1) m' H') ∧ ∀ x H', (Itl K a).yld k H x H' → gName i x (wipe σ [i]) H' fun σ2 H2 => wipe σ2 [i] = wipe σ [i] ∧ tYes σ2 H2 fun b H3 =>
        if b = true then te σ2 H3 fun y H4 => ∃ acc, H4 D = some (.lst acc) ∧ acc.length < sizeLine ∧ Nx (upd H4 D (.lst (acc ++ [y]))) else Nx H3) := by
  refine lc_grow walk_list (xs.map f) (by simp) hn (fun _ s => s.seq hl) hD ?_ hd (fun _ _ _ _ q h => q _ _ h)
  rintro k x H2 H' R hk s2 ⟨rfl, hx⟩ hR
  refine ⟨wipe_set, he x (List.mem_of_getElem? hx) H' R s2 fun H4 s4 => hR _ _ ?_ s4⟩
  rw [List.getElem?_map, hx]
  rfl
theorem lc_itemsB {K : PySem.W.Frag} {a : Addr} {xs : List V} {i : Nat} {te : TE} {σ : L2.St} {H1 : Hp} {D : Addr} {Qd : Hp → Prop} (f : V → Bool) (hl : SqL K H1 a xs) (hn : xs.length ≤ 100000) (hD : H1 D = none)
    (he : ∀ x ∈ xs, ∀ H2 (R : VK), Same H1 H2 → (∀ H4, Same H2 H4 → R (.bl (f x)) H4) → te ((wipe σ [i]).set i (some x)) H2 R)
    (hd : ∀ H', Same H1 H' → H' D = some (.lst ((xs.map f).map V.bl)) → Qd H') :
    ∃ W : Nat → Nat → Hp → Prop, (∃ m, W 0 m (upd H1 D (.lst []))) ∧ ∀ k m H, W k m H →
      ((Itl K a).stop k H ∧ Qd H) ∨ ((Itl K a).go k H ∧ ∃ Nx : Hp → Prop, (∀ H', Nx H' → ∃ m', m' < m ∧ W (k + 1) m' H') ∧ ∀ x H', (Itl K a).yld k H x H' → gName i x (wipe σ [i]) H' fun σ2 H2 => wipe σ2 [i] = wipe σ [i] ∧ tYes σ2 H2 fun b H3 =>
        if b = true then te σ2 H3 fun y H4 => ∃ acc, H4 D = some (.lst acc) ∧ acc.length < sizeLine ∧ Nx (upd H4 D (.lst (acc ++ [y]))) else Nx H3) :=
  lc_items (fun x => .bl (f x)) hl hn hD he fun H' s e => hd H' s (by rw [e, List.map_map]; rfl)
section
variable {H : Hp} {Q : VK} {a b : Bool} {A B : Prop}
theorem q_isT (q : Q (.bl a) H) : rIsB (.bl a) (.bl true) H Q := ⟨a, true, rfl, rfl, by have e : decide (a = true) = a := by cases a <;> rfl
                                                                                        rw [e]; exact q⟩
theorem q_isF (q : Q (.bl (!a)) H) : rIsB (.bl a) (.bl false) H Q := ⟨a, false, rfl, rfl, by have e : decide (a = false) = !a := by cases a <;> rfl
                                                                                             rw [e]; exact q⟩
theorem q_notT (q : Q (.bl (!a)) H) : rNotB (.bl a) (.bl true) H Q := ⟨a, true, rfl, rfl, by have e : (!decide (a = true)) = !a := by cases a <;> rfl
                                                                                             rw [e]; exact q⟩
theorem q_notF (q : Q (.bl a) H) : rNotB (.bl a) (.bl false) H Q := ⟨a, false, rfl, rfl, by have e : (!decide (a = false)) = a := by cases a <;> rfl
                                                                                            rw [e]; exact q⟩
theorem q_ifA (h : if a = true then (if b = true then A else B) else B) : if (a && b) = true then A else B := by
  cases a <;> cases b <;> exact h
theorem q_ifO (h : if a = true then A else (if b = true then A else B)) : if (a || b) = true then A else B := by
  cases a <;> cases b <;> exact h
end
/-- all but the object at p stands as it stood -/
def Fr1 (p : Addr) (H H' : Hp) : Prop := ∀ b o, b ≠ p → H b = some o → H' b = some o
theorem fr1_at {p b : Addr} {H H' : Hp} {o : HO} (f : Fr1 p H H') (n : b ≠ p) (h : H b = some o) : H' b = some o := f b o n h
theorem same_at {b : Addr} {H H' : Hp} {o : HO} (s : Same H H') (h : H b = some o) : H' b = some o := s b o h
section
variable {K : PySem.W.Frag} {σ : L2.St} {H H' : Hp} {Q : VK} {x : V} {t : Value} {p : Addr}
theorem q_dnewK (h : ∀ p, H p = none → Q (.ref p) (upd H p (.dK []))) : tDNewK σ H Q := h
theorem q_disp {trs : List (TE × TE)} (h : ∀ p, H p = none → tPairs trs σ (upd H p (.dK [])) fun ps H2 => H2 p = some (.dK []) ∧ ∃ kvs : List (Key × V), ps = kvs.map (fun kv => (kV kv.1, kv.2)) ∧ kvs.length ≤ 15 ∧ Q (.ref p) (upd H2 p (.dK (mergeK [] kvs)))) : tDisp trs σ H Q := h
theorem q_pairs0 {Q : List (V × V) → Hp → Prop} (h : Q [] H) : tPairs [] σ H Q := h
theorem q_pairs {tk tv : TE} {r : List (TE × TE)} {Q : List (V × V) → Hp → Prop} (h : tk σ H fun x H1 => tv σ H1 fun y H2 => tPairs r σ H2 fun ps H3 => Q ((x, y) :: ps) H3) : tPairs ((tk, tv) :: r) σ H Q := h
theorem q_kvs {ps : List (V × V)} {P : List (Key × V) → Prop} (kvs : List (Key × V)) (h : H p = some (.dK [])) (e : ps = kvs.map fun kv => (kV kv.1, kv.2)) (hl : kvs.length ≤ 15) (q : P kvs) : H p = some (.dK []) ∧ ∃ kvs : List (Key × V), ps = kvs.map (fun kv => (kV kv.1, kv.2)) ∧ kvs.length ≤ 15 ∧ P kvs := ⟨h, kvs, e, hl, q⟩
theorem q_isiT {tp : Addr} {cs : List V} {us : List Value} {b : Bool} (h : H tp = some (.tup cs)) (hp : Paired ClsV cs us) (ht : TyX K H x t) (hk : PySem.W.kitAny K t us = some b) (q : Q (.bl b) H) : rIsiT K [x, .ref tp] H Q := ⟨x, tp, cs, t, us, b, rfl, h, hp, ht, hk, q⟩
theorem _root_.L2.TyX.mono (h : TyX K H x t) (s : Same H H') : TyX K H' x t := by
  cases h with
  | base h =>
    refine .base ?_
    cases h with
    | non => exact .non
    | bl y => exact .bl y
    | int i => exact .int i
    | str y => exact .str y
    | flt y => exact .flt y
    | lst e => exact .lst (s _ _ e)
    | frz e => exact .frz (s _ _ e)
    | tup e => exact .tup (s _ _ e)
    | dK e => exact .dK (s _ _ e)
    | dT e => exact .dT (s _ _ e)
    | ins e cl ha hn htk hm => exact .ins (s _ _ e) cl ha hn htk hm
  | byt y => exact .byt y
  | set e => exact .set (s _ _ e)
  | kList e c => exact .kList e c
  | kTuple e c => exact .kTuple e c
  | kDict e c => exact .kDict e c
  | fTuple e => exact .fTuple (s _ _ e)
  | fDict e => exact .fDict (s _ _ e)
end
section
variable {K : PySem.W.Frag} {t c : Value} {r : List Value} {b : Bool}
theorem ka_nil : PySem.W.kitAny K t [] = some false := rfl
theorem ka_t (h : PySem.W.kitOne K t c = some true) : PySem.W.kitAny K t (c :: r) = some true := by
  unfold PySem.W.kitAny
  rw [h]
theorem ka_f (h : PySem.W.kitOne K t c = some false) (h2 : PySem.W.kitAny K t r = some b) : PySem.W.kitAny K t (c :: r) = some b := by
  unfold PySem.W.kitAny
  rw [h]
  exact h2
end
theorem upd_free {H : Hp} {a b : Addr} {o : HO} (e : upd H a o b = none) : H b = none := by
  unfold upd at e
  split at e
  · cases e
  · exact e
section
variable {K : PySem.W.Frag} {σ : L2.St} {H : Hp} {Q : VK} {D : Ends} {ta tv : TE} {f g : Str} {a C dx : Addr} {fs : List (Str × V)} {v y : V}
theorem q_sfld (h : tv σ H fun y H1 => ta σ H1 fun x H2 => ∃ a C dx fs, x = .ref a ∧ H2 a = some (.ins C dx fs) ∧ Cls K C ∧ NoAttr K C f ∧ fs.length < 1000 ∧ D.nx σ (upd H2 a (.ins C dx (putF f y fs)))) : sFld K ta tv f D σ H := h
theorem q_sfldb {P : Addr → Addr → Addr → List (Str × V) → Prop} (h1 : H a = some (.ins C dx fs)) (hc : Cls K C) (hn : NoAttr K C f) (hl : fs.length < 1000) (h : P a C dx fs) : ∃ b C dx fs, V.ref a = .ref b ∧ H b = some (.ins C dx fs) ∧ Cls K C ∧ NoAttr K C f ∧ fs.length < 1000 ∧ P b C dx fs := ⟨a, C, dx, fs, rfl, h1, hc, hn, hl, h⟩
theorem q_fldb (h1 : H a = some (.ins C dx fs)) (hc : Cls K C) (hn : NoAttr K C f) (hl : fs.lookup f = some v) (h : Q v H) : ∃ b C dx fs v, V.ref a = .ref b ∧ H b = some (.ins C dx fs) ∧ Cls K C ∧ NoAttr K C f ∧ fs.lookup f = some v ∧ Q v H := ⟨a, C, dx, fs, v, rfl, h1, hc, hn, hl, h⟩
theorem lu_hd : List.lookup f ((f, v) :: fs) = some v := by simp [List.lookup]
theorem lu_tl (h : ¬ f = g) : List.lookup f ((g, y) :: fs) = List.lookup f fs := by
  have e : (f == g) = false := by simpa using h
  simp [List.lookup, e]
end
/-- items that are ints from 0 on -/
def NN (xs : List V) : Prop := ∀ x ∈ xs, ∃ n : Int, x = .int n ∧ 0 ≤ n
theorem NN.nil : NN [] := fun _ h => by cases h
theorem NN.cons {n : Int} {xs : List V} (h : 0 ≤ n) (t : NN xs) : NN (.int n :: xs) := fun x hx => by
  rcases List.mem_cons.mp hx with rfl | hx
  · exact ⟨n, rfl, h⟩
  · exact t x hx
theorem NN.of {ns : List Int} (h : ∀ n ∈ ns, 0 ≤ n) : NN (ns.map V.int) := fun x hx => by
  obtain ⟨n, hm, rfl⟩ := List.mem_map.mp hx
  exact ⟨n, rfl, h n hm⟩
theorem set_self {σ : L2.St} {i : Nat} {v : Option V} (h : σ[i]? = some v) : σ.set i v = σ := by
  obtain ⟨hi, e⟩ := List.getElem?_eq_some_iff.mp h
  rw [← e]
  exact List.set_getElem_self hi
/-- a loop over a list whose turns store nothing but its name, and let the heap grow -/
theorem for_grow {K : PySem.W.Frag} {a : Addr} {xs : List V} {i : Nat} {tb : TS} {D : Ends} {σ : L2.St} {H : Hp} {v0 : Option V} (hl : SqL K H a xs) (hi : σ[i]? = some v0)
    (hb : ∀ x ∈ xs, ∀ H2, Same H H2 → ∀ N : L2.St → Hp → Prop, (∀ H3, Same H2 H3 → N (σ.set i (some x)) H3) → tb { D with nx := N, ct := N, bk := D.nx } (σ.set i (some x)) H2)
    (hd : ∀ v H', Same H H' → D.nx (σ.set i v) H') :
    ∃ W : Nat → Nat → L2.St → Hp → Prop, (∃ m, W 0 m σ H) ∧ ∀ k m σ H, W k m σ H →
      ((Itl K a).stop k H ∧ D.nx σ H) ∨ ((Itl K a).go k H ∧ ∃ N : L2.St → Hp → Prop, (∀ σ' H', N σ' H' → ∃ m', m' < m ∧ W (k + 1) m' σ' H') ∧ ∀ x H', (Itl K a).yld k H x H' → gName i x σ H' fun σ2 H2 => tb { D with nx := N, ct := N, bk := D.nx } σ2 H2) := by
  refine for_list (K := K) (a := a) (xs := xs) (fun k σ' H' => (∃ v, σ' = σ.set i v) ∧ Same H H') ⟨⟨v0, (set_self hi).symm⟩, Same.refl H⟩ (fun k σ' H' _ h => h.2.seq hl) ?_ ?_
  · rintro k x σ' H' hx ⟨⟨v, rfl⟩, s⟩
    show tb _ ((σ.set i v).set i (some x)) H'
    rw [List.set_set]
    exact hb x (List.mem_of_getElem? hx) H' s _ fun H3 s3 => ⟨⟨some x, rfl⟩, s.trans s3⟩
  · rintro σ' H' ⟨⟨v, rfl⟩, s⟩
    exact hd v H' s
theorem q_nn {P : Prop} (h : P) : V.non = V.non ∧ P := ⟨rfl, h⟩
theorem _root_.L2.Same.fr1 {H H1 H2 : Hp} {p : Addr} (s : Same H H1) (f : Fr1 p H1 H2) (h : H p = none) : Same H H2 := fun b o e => f b o (ne_of_none e h) (s b o e)
theorem cutV_mem {xs : List V} {lo hi : Option Int} {x : V} (h : x ∈ cutV xs lo hi) : x ∈ xs := List.mem_of_mem_drop (List.mem_of_mem_take h)
theorem Fr1.refl {p : Addr} {H : Hp} : Fr1 p H H := fun _ _ _ e => e
theorem Fr1.upd {p : Addr} {H H' : Hp} {o : HO} (f : Fr1 p H H') : Fr1 p H (upd H' p o) := fun b u n e => by
  rw [upd_ne n]
  exact f b u n e
theorem kit_sub {K : PySem.W.Frag} {C : Addr} {T : String} {b : Bool} (h0 : PySem.W.kitMeta T = true) (h : PySem.W.subIn K (.ref C) (.type T) = some b) : PySem.W.kitOne K (.ref C) (.type T) = some b := by
  have e : (Value.ref C == Value.type T) = false := rfl
  unfold PySem.W.kitOne
  rw [e, if_neg (by decide)]
  show (if PySem.W.kitMeta T = true then _ else _) = _
  rw [if_pos h0]
  exact h
/-- the same, with a word about the heap that the turns keep, in place of the heap itself -/
theorem for_growF {K : PySem.W.Frag} {a : Addr} {xs : List V} {i : Nat} {tb : TS} {D : Ends} {σ : L2.St} {H : Hp} {v0 : Option V} (F : Hp → Prop) (hF : F H) (hl : ∀ H1, F H1 → SqL K H1 a xs) (hi : σ[i]? = some v0)
    (hb : ∀ x ∈ xs, ∀ H2, F H2 → ∀ N : L2.St → Hp → Prop, (∀ H3, F H3 → N (σ.set i (some x)) H3) → tb { D with nx := N, ct := N, bk := D.nx } (σ.set i (some x)) H2)
    (hd : ∀ v H', F H' → D.nx (σ.set i v) H') :
    ∃ W : Nat → Nat → L2.St → Hp → Prop, (∃ m, W 0 m σ H) ∧ ∀ k m σ H, W k m σ H →
      ((Itl K a).stop k H ∧ D.nx σ H) ∨ ((Itl K a).go k H ∧ ∃ N : L2.St → Hp → Prop, (∀ σ' H', N σ' H' → ∃ m', m' < m ∧ W (k + 1) m' σ' H') ∧ ∀ x H', (Itl K a).yld k H x H' → gName i x σ H' fun σ2 H2 => tb { D with nx := N, ct := N, bk := D.nx } σ2 H2) := by
  refine for_list (K := K) (a := a) (xs := xs) (fun k σ' H' => (∃ v, σ' = σ.set i v) ∧ F H') ⟨⟨v0, (set_self hi).symm⟩, hF⟩ (fun k σ' H' _ h => hl H' h.2) ?_ ?_
  · rintro k x σ' H' hx ⟨⟨v, rfl⟩, s⟩
    show tb _ ((σ.set i v).set i (some x)) H'
    rw [List.set_set]
    exact hb x (List.mem_of_getElem? hx) H' s _ fun H3 s3 => ⟨⟨some x, rfl⟩, s3⟩
  · rintro σ' H' ⟨⟨v, rfl⟩, s⟩
    exact hd v H' s
theorem at_strs (xs : List Str) (P : Str → Prop) {i : Int} (hP : ∀ x ∈ xs, P x) (h0 : 0 ≤ i) (h1 : i < xs.length) : ∃ m, atI (xs.map V.str) i = some (V.str m) ∧ P m := by
  obtain ⟨j, rfl⟩ := Int.eq_ofNat_of_zero_le h0
  have hj : j < xs.length := by omega
  refine ⟨xs[j], atI_nat (by simp [hj]), hP _ (List.getElem_mem hj)⟩

/-! ### readings of the words for exceptions, own objects, comprehensions of any walk -/
section
variable {σ : L2.St} {H : Hp} {Q : VK} {D : Ends} {C a dx : Addr} {m f : Str} {fs : List (Str × V)} {E : L2.St → XK} {sp : Sp} {te ta : TE} {t : TA}
theorem q_callSD (h : t σ H fun vs H1 => sp vs H1 Q (E σ)) : tCallSD sp [] E t σ H Q := by
  have e : (fun vs H1 => sp (vs ++ []) H1 Q (E σ)) = fun vs H1 => sp vs H1 Q (E σ) := by
    funext vs H1
    rw [List.append_nil]
  show t σ H fun vs H1 => sp (vs ++ []) H1 Q (E σ)
  rw [e]
  exact h
theorem q_callSDd {dvs : List V} (h : t σ H fun vs H1 => sp (vs ++ dvs) H1 Q (E σ)) : tCallSD sp dvs E t σ H Q := h
theorem q_methE (h : ta σ H fun x H1 => ∃ a dx fs, x = .ref a ∧ H1 a = some (.ins C dx fs) ∧ fs.lookup m = none ∧ t σ H1 fun vs H2 => sp (x :: vs) H2 Q (E σ)) : tMethE C m sp [] E ta t σ H Q := by
  unfold tMethE
  simp only [List.append_nil]
  exact h
theorem q_methEd {dvs : List V} (h : ta σ H fun x H1 => ∃ a dx fs, x = .ref a ∧ H1 a = some (.ins C dx fs) ∧ fs.lookup m = none ∧ t σ H1 fun vs H2 => sp (x :: (vs ++ dvs)) H2 Q (E σ)) : tMethE C m sp dvs E ta t σ H Q := h
theorem q_methd {dvs : List V} {E : XK} (h : ta σ H fun x H1 => ∃ a dx fs, x = .ref a ∧ H1 a = some (.ins C dx fs) ∧ fs.lookup m = none ∧ t σ H1 fun vs H2 => sp (x :: (vs ++ dvs)) H2 Q E) : tMeth C m sp dvs E ta t σ H Q := h
theorem q_makeE (h : t σ H fun vs H1 => ∀ x dx, H1 x = none → H1 dx = none → dx ≠ x → sp (.ref x :: vs) (upd (upd H1 dx (.own x)) x (.ins C dx [])) (fun v H2 => v = .non ∧ Q (.ref x) H2) (E σ)) : tMakeE C sp [] E t σ H Q := by
  unfold tMakeE
  simp only [List.append_nil]
  exact h
theorem q_methb {P : Prop} (h1 : H a = some (.ins C dx fs)) (h2 : fs.lookup m = none) (h : P) : ∃ b dx fs, V.ref a = .ref b ∧ H b = some (.ins C dx fs) ∧ fs.lookup m = none ∧ P := ⟨a, dx, fs, rfl, h1, h2, h⟩
theorem q_lenO (h1 : H a = some (.ins C dx fs)) {P : Addr → Prop} (h : P a) : ∃ b dx fs, [V.ref a] = [.ref b] ∧ H b = some (.ins C dx fs) ∧ P b := ⟨a, dx, fs, rfl, h1, h⟩
theorem q_lenI {n : Int} {P : Int → Prop} (h0 : 0 ≤ n) (h1 : n < 2 ^ 63) (h : P n) : ∃ k : Int, V.int n = .int k ∧ 0 ≤ k ∧ k < 2 ^ 63 ∧ P k := ⟨n, rfl, h0, h1, h⟩
theorem q_eqO {b dy : Addr} {gs : List (Str × V)} {P : Addr → Addr → Prop} (h1 : H a = some (.ins C dx fs)) (h2 : H b = some (.ins C dy gs)) (h : P a b) : ∃ a' dx fs b' dy gs, V.ref a = .ref a' ∧ V.ref b = .ref b' ∧ H a' = some (.ins C dx fs) ∧ H b' = some (.ins C dy gs) ∧ P a' b' := ⟨a, dx, fs, b, dy, gs, rfl, rfl, h1, h2, h⟩
theorem q_bz {z : Bool} {P : Bool → Prop} (h : P z) : ∃ y, V.bl z = .bl y ∧ P y := ⟨z, rfl, h⟩
end
theorem room128 {k : Nat} {A : Around} (r : Room k A) : A.units + 128 < cLine := by
  have := r.un
  omega
theorem q_fldP {K : PySem.W.Frag} {H : Hp} {a C dx : Addr} {fs : List (Str × V)} {f : Str} {v : V} {P : V → Prop} (h1 : H a = some (.ins C dx fs)) (hc : Cls K C) (hn : NoAttr K C f) (hl : fs.lookup f = some v) (h : P v) : ∃ b C dx fs v, V.ref a = .ref b ∧ H b = some (.ins C dx fs) ∧ Cls K C ∧ NoAttr K C f ∧ fs.lookup f = some v ∧ P v := ⟨a, C, dx, fs, v, rfl, h1, hc, hn, hl, h⟩
theorem kg_tup {X : Cx} {K : PySem.W.Frag} {es : List Expr} {k : Nat} {pos : Pos} {t : TGs} {n : Nat} (hK : X.K = K) (hc : X.calm = true) (h : PGs X es t) (hn : (assignEach es X.env).length = n := by rfl) (hst : (assignEach es X.env).findIdx? (·.1) = none := by rfl) : PG X (.Tuple es k pos) (gTup K n t) := by
  subst hK
  exact pg_tup hc h hn hst
theorem lu_nil {f : Str} {α : Type} : List.lookup f ([] : List (Str × α)) = none := rfl
theorem lu_tlN {f g : Str} {y : V} {fs : List (Str × V)} (h : ¬ f = g) (h2 : List.lookup f fs = none) : List.lookup f ((g, y) :: fs) = none := by rw [lu_tl h, h2]
/-! raise, try -/
def WEx (W : WX) : L2.St → XK := fun σ cls d H => W cls d σ H
theorem passX {X : Cx} {W : WX} (tk : Takes X W) (σ : L2.St) : PassesAt (L2.CX X.prog X.w) X σ (WEx W σ) := passAt tk σ
def tRaise (te : TE) (C : Addr) (f : Str) (W : WX) : TS := fun _ σ H => te σ H fun v H1 => ∀ d, H1 d = none → W (.ref C) (some d) σ (upd H1 d (.xd [(f, v)]))
def tTry (tb : WX → TS) (Wout : WX) (l : List Clause) : TS := fun D σ H => tb (wTry Wout D l) D σ H
theorem ps_raiseX {X : Cx} {W : WX} {x f : Str} {e : Expr} {te : TE} {p pos pos' : Pos} {C fI : Addr} {B newId initId : String} {bmB : List Value} (hc : X.calm = true) (tk : Takes X W) (hP : PF X.prog) (T : OexS X.K C fI B newId initId bmB f) (hs : X.mg "super" = none) (hr : Room 2 X.A) (hg : Gl X x) (gC : X.mg x = some (.ref C)) (he : PE X e te) (hdb : (x == ("__debug__" : Str)) = false := by decide)
    (hse : starEach [e] X.env = (false, eval e X.env) :: starEach [] X.env := by rfl) : PS X (.Raise (some (.Call (.Name x p) [e] [] pos)) none pos') (tRaise te C f W) := ps_raise hc tk (pmk_exs hP T hs hr hg gC he hdb hse)
theorem ps_tryX {X : Cx} {Wout : WX} {body : List Stmt} {h₀ : ExceptHandler} {hds : List ExceptHandler} {l : List Clause} {pos : Pos} {tb : WX → TS} (hs : X.stack = X.env :: X.outer) (hf : X.env.frame = some X.env.locals) (hN : X.N.Nodup) (tk : Takes X Wout)
    (hb : ∀ (W : WX) (pn : List (Addr × Obj)) (xe : Value → Shared → Prop), Takes (X.tr pn xe) W → PassesOwn (model X.prog X.w) X.A X.env xe → PSs (X.tr pn xe) body (tb W))
    (hh : ClsOk X (h₀ :: hds) l) : PS X (.Try body (h₀ :: hds) [] [] pos) (tTry tb Wout l) := ps_try_g hs hf hN tk hb hh
section
variable {σ : L2.St} {H : Hp} {Q : VK} {D : Ends} {C d0 : Addr} {f : Str} {te : TE} {W Wout : WX} {tb : WX → TS} {l r : List Clause} {cls : Value} {d : Option Addr} {cf : Value → Option Bool} {i : Nat} {ts : Addr → Value → Option Addr → TS}
theorem q_raise (h : te σ H fun v H1 => ∀ d, H1 d = none → W (.ref C) (some d) σ (upd H1 d (.xd [(f, v)]))) : tRaise te C f W D σ H := h
theorem q_try (h : tb (wTry Wout D l) D σ H) : tTry tb Wout l D σ H := h
theorem q_wE (h : W cls d σ H) : WEx W σ cls d H := h
theorem q_clN (hb : cf cls = some true) (h : ∀ a, H a = none → ts a cls d (goneE i D) (σ.set i (some (.ref a))) H) : wTry Wout D ((cf, some i, ts) :: l) cls d σ H := ⟨true, hb, by rw [if_pos rfl]; exact h⟩
theorem q_clN0 (hb : cf cls = some false) (h : wTry Wout D l cls d σ H) : wTry Wout D ((cf, some i, ts) :: l) cls d σ H := ⟨false, hb, by rw [if_neg Bool.false_ne_true]; exact h⟩
theorem q_clP (hb : cf cls = some true) (h : ∀ a, H a = none → ts a cls d D σ H) : wTry Wout D ((cf, none, ts) :: l) cls d σ H := ⟨true, hb, by rw [if_pos rfl]; exact h⟩
theorem q_clP0 (hb : cf cls = some false) (h : wTry Wout D l cls d σ H) : wTry Wout D ((cf, none, ts) :: l) cls d σ H := ⟨false, hb, by rw [if_neg Bool.false_ne_true]; exact h⟩
theorem q_xg {K : PySem.W.Frag} {a : Addr} (h : te σ H fun x H1 => ∃ (D dd : Addr) (fs : List (Str × V)) (v : V), x = .ref a ∧ cls = .ref D ∧ d = some dd ∧ XfC K D ∧ PySem.W.findIn K (.ref D) f = some none ∧ H1 dd = some (.xd fs) ∧ fs.lookup f = some v ∧ Q v H1) : tXg K a cls d f te σ H Q := h
theorem q_xgb {K : PySem.W.Frag} {a Dc dd : Addr} {fs : List (Str × V)} {v : V} (h1 : H dd = some (.xd fs)) (h2 : XfC K Dc) (h3 : PySem.W.findIn K (.ref Dc) f = some none) {P : V → Prop} (h4 : fs.lookup f = some v) (h : P v) : ∃ (D dd' : Addr) (fs : List (Str × V)) (v : V), V.ref a = .ref a ∧ Value.ref Dc = .ref D ∧ some dd = some dd' ∧ XfC K D ∧ PySem.W.findIn K (.ref D) f = some none ∧ H dd' = some (.xd fs) ∧ fs.lookup f = some v ∧ P v := ⟨Dc, dd, fs, v, rfl, rfl, rfl, h2, h3, h1, h4, h⟩
theorem q_isX {K : PySem.W.Frag} {a Dc dd : Addr} {fs : List (Str × V)} {c : V} {cv : Value} {b : Bool} (h1 : H dd = some (.xd fs)) (h2 : ExcC K Dc) (h3 : ClsV c cv) (h4 : PySem.W.kitOne K (.ref Dc) cv = some b) (h : Q (.bl b) H) : rIsX K a (.ref Dc) (some dd) [.ref a, c] H Q := ⟨Dc, dd, fs, c, cv, b, rfl, rfl, rfl, h1, h2, h3, h4, h⟩
end
section
variable {K : PySem.W.Frag} {cls c : Value} {r : List Value} {b b2 : Bool}
theorem xa_nil : PySem.W.exmAny K cls [] = some false := rfl
theorem xa_cons (h1 : PySem.W.exmOne K cls c = some b) (h2 : PySem.W.exmAny K cls r = some b2) : PySem.W.exmAny K cls (c :: r) = some (b || b2) := by
  unfold PySem.W.exmAny
  rw [h1, h2]
theorem kit_ref {D C : Addr} (hd : PySem.W.hasDictIn K C = true) (ht : PySem.W.typeIn K (.ref C) = some (.type "type")) (hs : PySem.W.subIn K (.ref C) (.ref C) = some true) (h : PySem.W.subIn K (.ref D) (.ref C) = some b) : PySem.W.kitOne K (.ref D) (.ref C) = some b := by
  unfold PySem.W.kitOne
  by_cases e : D = C
  · subst e
    rw [if_pos (beq_self_eq_true _)]
    exact hs.symm.trans h
  · have e' : (Value.ref D == Value.ref C) = false := by simpa using e
    rw [e', if_neg Bool.false_ne_true]
    obtain ⟨cd, hc, _⟩ := PySem.W.any_some hd
    have e2 : ((PySem.W.clsIn K C).isSome && PySem.W.typeIn K (.ref C) == some (.type "type")) = true := by rw [hc, ht]; rfl
    show (if ((PySem.W.clsIn K C).isSome && PySem.W.typeIn K (.ref C) == some (.type "type")) = true then PySem.W.subIn K (.ref D) (.ref C) else none) = some b
    rw [if_pos e2]
    exact h
theorem kit_self {C : Addr} : PySem.W.kitOne K (.ref C) (.ref C) = some true := by
  unfold PySem.W.kitOne
  rw [if_pos (beq_self_eq_true _)]
theorem kit_tyref {T : String} {C : Addr} (hd : PySem.W.hasDictIn K C = true) (ht : PySem.W.typeIn K (.ref C) = some (.type "type")) (h : PySem.W.subIn K (.type T) (.ref C) = some b) : PySem.W.kitOne K (.type T) (.ref C) = some b := by
  unfold PySem.W.kitOne
  have e' : (Value.type T == Value.ref C) = false := rfl
  rw [e', if_neg Bool.false_ne_true]
  obtain ⟨cd, hc, _⟩ := PySem.W.any_some hd
  have e2 : ((PySem.W.clsIn K C).isSome && PySem.W.typeIn K (.ref C) == some (.type "type")) = true := by rw [hc, ht]; rfl
  show (if ((PySem.W.clsIn K C).isSome && PySem.W.typeIn K (.ref C) == some (.type "type")) = true then PySem.W.subIn K (.type T) (.ref C) else none) = some b
  rw [if_pos e2]
  exact h
end
/-! == by items -/
section
variable {K : PySem.W.Frag} {H : Hp} {Q : VK} {a b : Addr} {xs ys : List V} {c : Bool} {x y : V}
theorem q_eqXT (h1 : SqT K H a xs) (h2 : SqT K H b ys) (h3 : E1s K H xs ys c) (q : Q (.bl c) H) : rEqX K (.ref a) (.ref b) H Q := ⟨a, b, xs, ys, c, rfl, rfl, .inl ⟨h1, h2⟩, h3, q⟩
theorem q_eqXL (h1 : SqL K H a xs) (h2 : SqL K H b ys) (h3 : E1s K H xs ys c) (q : Q (.bl c) H) : rEqX K (.ref a) (.ref b) H Q := ⟨a, b, xs, ys, c, rfl, rfl, .inr ⟨h1, h2⟩, h3, q⟩
theorem q_neXT (h1 : SqT K H a xs) (h2 : SqT K H b ys) (h3 : E1s K H xs ys c) (q : Q (.bl (!c)) H) : rNeX K (.ref a) (.ref b) H Q := ⟨a, b, xs, ys, c, rfl, rfl, .inl ⟨h1, h2⟩, h3, q⟩
theorem q_neXL (h1 : SqL K H a xs) (h2 : SqL K H b ys) (h3 : E1s K H xs ys c) (q : Q (.bl (!c)) H) : rNeX K (.ref a) (.ref b) H Q := ⟨a, b, xs, ys, c, rfl, rfl, .inr ⟨h1, h2⟩, h3, q⟩
theorem e1_str {s : Str} : E1 K H (.str s) (.str s) true := by
  have z := E1.str (K := K) (H := H) s s
  rwa [beq_self_eq_true] at z
theorem e1_int {i : Int} : E1 K H (.int i) (.int i) true := by
  have z : PyData.eqv (.int i) (.int i) = true := by simp [PyData.eqv]
  have w : E1 K H (.int i) (.int i) (PyData.eqv (.int i) (.int i)) := .dat (.int i) (.int i) rfl rfl
  rw [z] at w
  exact w
theorem e1_bl {i : Bool} : E1 K H (.bl i) (.bl i) true := by
  have z : PyData.eqv (.bool i) (.bool i) = true := by simp [PyData.eqv]
  have w : E1 K H (.bl i) (.bl i) (PyData.eqv (.bool i) (.bool i)) := .dat (.bl i) (.bl i) rfl rfl
  rw [z] at w
  exact w
theorem e1_non : E1 K H .non .non true := by
  have z : PyData.eqv .none .none = true := by simp [PyData.eqv]
  have w : E1 K H .non .non (PyData.eqv .none .none) := .dat .non .non rfl rfl
  rw [z] at w
  exact w
theorem DpInts {ns : List Int} : DpAll K H (ns.map V.int) (ns.map PyData.int) := by
  induction ns with
  | nil => exact .nil
  | cons n ns ih => exact .cons (.int n) ih
theorem e1_self (hx : (∃ a, x = .ref a) ∨ (∃ s, x = .str s) ∨ (∃ i, x = .int i) ∨ (∃ b, x = .bl b) ∨ x = .non) : E1 K H x x true := by
  rcases hx with ⟨_, rfl⟩ | ⟨_, rfl⟩ | ⟨_, rfl⟩ | ⟨_, rfl⟩ | rfl
  · exact .same _
  · exact e1_str
  · exact e1_int
  · exact e1_bl
  · exact e1_non
theorem e1s_2 {x2 y2 : V} {b1 b2 : Bool} (h1 : E1 K H x y b1) (h2 : E1 K H x2 y2 b2) : E1s K H [x, x2] [y, y2] (b1 && b2) := by
  have z := E1s.cons h1 (E1s.cons h2 .nil)
  simpa using z
end
theorem eqv_ints {ms ns : List Int} : PyData.eqvAll (ms.map PyData.int) (ns.map PyData.int) = decide (ms = ns) := by
  induction ms generalizing ns with
  | nil => cases ns <;> simp [PyData.eqvAll]
  | cons m ms ih =>
    cases ns with
    | nil => simp [PyData.eqvAll]
    | cons n ns =>
      simp only [List.map_cons, PyData.eqvAll, ih, PyData.eqv, List.cons.injEq, Bool.decide_and]
      congr 1
theorem lay_ints {ns : List Int} : PyData.canLayAll0 (ns.map PyData.int) = true := by
  induction ns with
  | nil => rfl
  | cons n ns ih =>
    show (PyData.canLay0 (.int n) && PyData.canLayAll0 (ns.map PyData.int)) = true
    rw [ih]
    rfl
theorem depth_ints {ns : List Int} : PyData.depthAll (ns.map PyData.int) = 0 ∨ PyData.depthAll (ns.map PyData.int) ≤ 1 := by
  induction ns with
  | nil => exact .inl rfl
  | cons n ns ih =>
    refine .inr ?_
    show max (PyData.depth (.int n)) (PyData.depthAll (ns.map PyData.int)) ≤ 1
    have : PyData.depth (.int n) ≤ 1 := Nat.zero_le 1
    omega
theorem sh_ints {ns : List Int} : (PyData.canLayAll0 (ns.map PyData.int) && decide (PyData.depthAll (ns.map PyData.int) + 1 ≤ 64)) = true := by
  rw [lay_ints, Bool.true_and, decide_eq_true_eq]
  have := depth_ints (ns := ns)
  omega
theorem shT {ns : List Int} : SeqAt.shaped (.tuple (ns.map PyData.int)) = true := sh_ints
theorem shL {ns : List Int} : SeqAt.shaped (.list (ns.map PyData.int)) = true := sh_ints
section
variable {K : PySem.W.Frag} {H : Hp} {Q : VK} {a b : Addr} {ms ns : List Int}
theorem q_eqTI (h1 : SqT K H a (ms.map V.int)) (h2 : SqT K H b (ns.map V.int)) (q : Q (.bl (decide (ms = ns))) H) : rEqD K (.ref a) (.ref b) H Q := q_eqD (.tup h1 DpInts) (.tup h2 DpInts) shT shT (by rw [show PyData.eqv (.tuple (ms.map PyData.int)) (.tuple (ns.map PyData.int)) = decide (ms = ns) from eqv_ints]; exact q)
theorem q_neTI (h1 : SqT K H a (ms.map V.int)) (h2 : SqT K H b (ns.map V.int)) (q : Q (.bl (!decide (ms = ns))) H) : rNeD K (.ref a) (.ref b) H Q := q_neD (.tup h1 DpInts) (.tup h2 DpInts) shT shT (by rw [show PyData.eqv (.tuple (ms.map PyData.int)) (.tuple (ns.map PyData.int)) = decide (ms = ns) from eqv_ints]; exact q)
theorem q_eqLI (h1 : SqL K H a (ms.map V.int)) (h2 : SqL K H b (ns.map V.int)) (q : Q (.bl (decide (ms = ns))) H) : rEqD K (.ref a) (.ref b) H Q := q_eqD (.lst h1 DpInts) (.lst h2 DpInts) shL shL (by rw [show PyData.eqv (.list (ms.map PyData.int)) (.list (ns.map PyData.int)) = decide (ms = ns) from eqv_ints]; exact q)
theorem q_neLI (h1 : SqL K H a (ms.map V.int)) (h2 : SqL K H b (ns.map V.int)) (q : Q (.bl (!decide (ms = ns))) H) : rNeD K (.ref a) (.ref b) H Q := q_neD (.lst h1 DpInts) (.lst h2 DpInts) shL shL (by rw [show PyData.eqv (.list (ms.map PyData.int)) (.list (ns.map PyData.int)) = decide (ms = ns) from eqv_ints]; exact q)
end
/-! ### comprehensions over any walk, whose elements change nothing that stood: what holds of each element -/
theorem lc_any {J : It} {n : Nat} {G : Hp → Prop} {Y : Nat → Hp → V → Hp → Prop} (w : Walk J n G Y) {g : TG} {tt : TT} {te : TE} {vs : List Nat} {σ : L2.St} {H1 : Hp} {D : Addr} {Qd : Hp → Prop} (P : Nat → List V → Hp → Prop) (hn : n ≤ 100000) (hP : ∀ k ys H H', P k ys H → Same H H' → P k ys H') (hS : ∀ k ys H acc, P k ys H → P k ys (upd H D (.lst acc))) (h0 : P 0 [] H1)
    (hG : ∀ H', Same H1 H' → G H') (hD : H1 D = none)
    (he : ∀ k x ys H2 H' (R : Bool → Hp → Prop) (S : V → Hp → Prop), k < n → Same H1 H2 → P k ys H2 → H2 D = some (.lst ys) → Y k H2 x H' → (∀ b H3, Same H2 H3 → (b = false → P (k + 1) ys H3) → R b H3) → (∀ y H4, Same H2 H4 → P (k + 1) (ys ++ [y]) H4 → S y H4) → g x (wipe σ vs) H' fun σ2 H3 => wipe σ2 vs = wipe σ vs ∧ tt σ2 H3 fun b H4 => R b H4 ∧ (b = true → te σ2 H4 S))
    (hd : ∀ ys H', Same H1 H' → P n ys H' → H' D = some (.lst ys) → Qd H') (gm : ∀ x H' Q Q', (∀ σ H, Q σ H → Q' σ H) → g x (wipe σ vs) H' Q → g x (wipe σ vs) H' Q')
    (tm : ∀ σ H Q Q', (∀ b H, Q b H → Q' b H) → tt σ H Q → tt σ H Q') :
    ∃ W : Nat → Nat → Hp → Prop, (∃ m, W 0 m (upd H1 D (.lst []))) ∧ ∀ i m H, W i m H →
      (J.stop i H ∧ Qd H) ∨ (J.go i H ∧ ∃ Nx : Hp → Prop, (∀ H', Nx H' → ∃ m', m' < m ∧ W (i + 1) m' H') ∧ ∀ x H', J.yld i H x H' → g x (wipe σ vs) H' fun σ2 H2 => wipe σ2 vs = wipe σ vs ∧ tt σ2 H2 fun b H3 =>
        if b = true then te σ2 H3 fun y H4 => ∃ acc, H4 D = some (.lst acc) ∧ acc.length < sizeLine ∧ Nx (upd H4 D (.lst (acc ++ [y]))) else Nx H3) := by
  refine lc_it w (fun k H' => Same H1 H' ∧ ∃ ys, P k ys H' ∧ ys.length ≤ k ∧ H' D = some (.lst ys)) ⟨Same.new hD, [], hS _ _ _ _ h0, Nat.le_refl _, upd_same⟩ (fun i H' _ h => hG H' h.1) ?_ ?_
  · rintro k x H2 H' hk ⟨s2, ys, p2, l2, d2⟩ y
    refine gm _ _ _ _ (fun σ2 H3 q => ⟨q.1, tm _ _ _ _ (fun b H4 q4 => ?_) q.2⟩) (he k x ys H2 H' (fun b H3 => b = false → Same H1 H3 ∧ ∃ ys, P (k + 1) ys H3 ∧ ys.length ≤ k + 1 ∧ H3 D = some (.lst ys)) (fun y H4 => ∃ acc, H4 D = some (.lst acc) ∧ acc.length < sizeLine ∧ Same H1 (upd H4 D (.lst (acc ++ [y]))) ∧ ∃ ys, P (k + 1) ys (upd H4 D (.lst (acc ++ [y]))) ∧ ys.length ≤ k + 1 ∧ upd H4 D (.lst (acc ++ [y])) D = some (.lst ys)) hk s2 p2 d2 y (fun b H3 s3 p3 hb => ⟨s2.trans s3, ys, p3 hb, Nat.le_succ_of_le l2, s3 _ _ d2⟩) fun v H4 s4 p4 => ⟨ys, s4 _ _ d2, line_lt (by omega), (s2.trans s4).snew hD, ys ++ [v], hS _ _ _ _ p4, by simp; omega, upd_same⟩)
    cases b with
    | true => exact iteT (q4.2 rfl)
    | false => exact iteF (q4.1 rfl)
  · rintro H' ⟨s2, ys, p2, _, d2⟩
    exact hd ys H' s2 p2 d2
theorem tYes_m : ∀ (σ : L2.St) (H : Hp) (Q Q' : Bool → Hp → Prop), (∀ b H, Q b H → Q' b H) → tYes σ H Q → tYes σ H Q' := fun _ _ _ _ h q => h _ _ q
theorem gName_m {i : Nat} {σ : L2.St} : ∀ (x : V) (H' : Hp) (Q Q' : L2.St → Hp → Prop), (∀ σ H, Q σ H → Q' σ H) → gName i x σ H' Q → gName i x σ H' Q' := fun _ _ _ _ h q => h _ _ q
theorem gTup2_m {K : PySem.W.Frag} {i j : Nat} {σ : L2.St} : ∀ (x : V) (H' : Hp) (Q Q' : L2.St → Hp → Prop), (∀ σ H, Q σ H → Q' σ H) → gTup K 2 (gCons (gName i) (gCons (gName j) gNil)) x σ H' Q → gTup K 2 (gCons (gName i) (gCons (gName j) gNil)) x σ H' Q' := by
  rintro x H' Q Q' h ⟨a, xs, e, s, l, v, r, e1, v2, r2, e2, e3, q⟩
  exact ⟨a, xs, e, s, l, v, r, e1, v2, r2, e2, e3, h _ _ q⟩
/-- no test, one name: elements that are the items' values of f, told by P -/
theorem lc_each {J : It} {n : Nat} {G : Hp → Prop} {Y : Nat → Hp → V → Hp → Prop} (w : Walk J n G Y) {i : Nat} {te : TE} {σ : L2.St} {H1 : Hp} {D : Addr} {Qd : Hp → Prop} (P : Nat → V → Hp → Prop) (hn : n ≤ 100000) (hP : ∀ k y H H', P k y H → Same H H' → P k y H') (hS : ∀ k y H acc, P k y H → P k y (upd H D (.lst acc)))
    (hG : ∀ H', Same H1 H' → G H') (hD : H1 D = none)
    (he : ∀ k x H2 H' (S : V → Hp → Prop), k < n → Same H1 H2 → (∃ ys, H2 D = some (.lst ys)) → Y k H2 x H' → (∀ y H4, Same H2 H4 → P k y H4 → S y H4) → te ((wipe σ [i]).set i (some x)) H' S)
    (hd : ∀ ys H', Same H1 H' → ys.length = n → (∀ (k : Nat) y, ys[k]? = some y → P k y H') → H' D = some (.lst ys) → Qd H') :
    ∃ W : Nat → Nat → Hp → Prop, (∃ m, W 0 m (upd H1 D (.lst []))) ∧ ∀ k m H, W k m H →
      (J.stop k H ∧ Qd H) ∨ (J.go k H ∧ ∃ Nx : Hp → Prop, (∀ H', Nx H' → ∃ m', m' < m ∧ W (k + 1) m' H') ∧ ∀ x H', J.yld k H x H' → gName i x (wipe σ [i]) H' fun σ2 H2 => wipe σ2 [i] = wipe σ [i] ∧ tYes σ2 H2 fun b H3 =>
        if b = true then te σ2 H3 fun y H4 => ∃ acc, H4 D = some (.lst acc) ∧ acc.length < sizeLine ∧ Nx (upd H4 D (.lst (acc ++ [y]))) else Nx H3) := by
  refine lc_it w (fun k H' => Same H1 H' ∧ ∃ ys, (∀ (j : Nat) y, ys[j]? = some y → P j y H') ∧ ys.length = k ∧ H' D = some (.lst ys)) ⟨Same.new hD, [], fun j y z => (by simp at z), rfl, upd_same⟩ (fun i H' _ h => hG H' h.1) ?_ ?_
  · rintro k x H2 H' hk ⟨s2, ys, p2, rfl, d2⟩ y
    refine ⟨wipe_set, ?_⟩
    unfold tYes
    refine iteT (he ys.length x H2 H' _ hk s2 ⟨ys, d2⟩ y fun v H4 s4 p4 => ⟨ys, s4 _ _ d2, line_lt (by omega), (s2.trans s4).snew hD, ys ++ [v], ?_, by simp, upd_same⟩)
    intro j z ez
    rcases Nat.lt_or_ge j ys.length with hj | hj
    · rw [List.getElem?_append_left hj] at ez
      exact hS _ _ _ _ (hP _ _ _ _ (p2 j z ez) s4)
    · rw [List.getElem?_append_right hj] at ez
      rcases Nat.eq_zero_or_pos (j - ys.length) with hz | hz
      · rw [hz] at ez
        have ej : j = ys.length := by omega
        subst ej
        simp at ez
        subst ez
        exact hS _ _ _ _ p4
      · rw [List.getElem?_eq_none (by simp; omega)] at ez
        cases ez
  · rintro H' ⟨s2, ys, p2, l2, d2⟩
    exact hd ys H' s2 l2 p2 d2
/-- over a range, each element a function of the number -/
theorem lc_rangeF {lo : Int} {n i : Nat} {te : TE} {σ : L2.St} {H1 : Hp} {D : Addr} {Qd : Hp → Prop} (f : Nat → V) (hn : n ≤ 100000) (hD : H1 D = none)
    (he : ∀ k, k < n → ∀ H2 (R : VK), Same H1 H2 → (∀ H4, Same H2 H4 → R (f k) H4) → te ((wipe σ [i]).set i (some (.int (lo + k)))) H2 R)
    (hd : ∀ H', Same H1 H' → H' D = some (.lst ((List.range n).map f)) → Qd H') :
    ∃ W : Nat → Nat → Hp → Prop, (∃ m, W 0 m (upd H1 D (.lst []))) ∧ ∀ k m H, W k m H →
      ((Itr lo n).stop k H ∧ Qd H) ∨ ((Itr lo n).go k H ∧ ∃ Nx : Hp → Prop, (∀ H', Nx H' → ∃ m', m' < m ∧ W (k + 1) m' H') ∧ ∀ x H', (Itr lo n).yld k H x H' → gName i x (wipe σ [i]) H' fun σ2 H2 => wipe σ2 [i] = wipe σ [i] ∧ tYes σ2 H2 fun b H3 =>
        if b = true then te σ2 H3 fun y H4 => ∃ acc, H4 D = some (.lst acc) ∧ acc.length < sizeLine ∧ Nx (upd H4 D (.lst (acc ++ [y]))) else Nx H3) := by
  refine lc_grow walk_range ((List.range n).map f) (by simp) hn (fun _ _ => trivial) hD ?_ hd (fun _ _ _ _ q h => q _ _ h)
  rintro k x H2 H' R hk s2 ⟨rfl, rfl⟩ hR
  refine ⟨wipe_set, he k hk H' R s2 fun H4 s4 => hR _ _ ?_ s4⟩
  rw [List.getElem?_map, List.getElem?_range hk]
  rfl
theorem q_zipA {K : PySem.W.Frag} {ta : TA} {σ : L2.St} {H : Hp} {R : It → Hp → Prop} (h : ta σ H fun vs H1 => ∃ a b xs ys, vs = [.ref a, .ref b] ∧ ((SqL K H1 a xs ∧ SqL K H1 b ys ∧ R (Itz K a b) H1) ∨ (SqT K H1 a xs ∧ SqT K H1 b ys ∧ R (RZ.ItzT K a b) H1))) : RZ.iZipA K ta σ H R := h
theorem q_zipT {K : PySem.W.Frag} {H : Hp} {a b : Addr} {xs ys : List V} {R R2 : Addr → Addr → Prop} (h1 : SqT K H a xs) (h2 : SqT K H b ys) (h : R2 a b) : ∃ a' b' xs ys, [V.ref a, V.ref b] = [.ref a', .ref b'] ∧ ((SqL K H a' xs ∧ SqL K H b' ys ∧ R a' b') ∨ (SqT K H a' xs ∧ SqT K H b' ys ∧ R2 a' b')) := ⟨a, b, xs, ys, rfl, .inr ⟨h1, h2, h⟩⟩
theorem lc_rangeB {lo : Int} {n i : Nat} {te : TE} {σ : L2.St} {H1 : Hp} {D : Addr} {Qd : Hp → Prop} (f : Nat → Bool) (hn : n ≤ 100000) (hD : H1 D = none)
    (he : ∀ k, k < n → ∀ H2 (R : VK), Same H1 H2 → (∀ H4, Same H2 H4 → R (.bl (f k)) H4) → te ((wipe σ [i]).set i (some (.int (lo + k)))) H2 R)
    (hd : ∀ H', Same H1 H' → H' D = some (.lst (((List.range n).map f).map V.bl)) → Qd H') :
    ∃ W : Nat → Nat → Hp → Prop, (∃ m, W 0 m (upd H1 D (.lst []))) ∧ ∀ k m H, W k m H →
      ((Itr lo n).stop k H ∧ Qd H) ∨ ((Itr lo n).go k H ∧ ∃ Nx : Hp → Prop, (∀ H', Nx H' → ∃ m', m' < m ∧ W (k + 1) m' H') ∧ ∀ x H', (Itr lo n).yld k H x H' → gName i x (wipe σ [i]) H' fun σ2 H2 => wipe σ2 [i] = wipe σ [i] ∧ tYes σ2 H2 fun b H3 =>
        if b = true then te σ2 H3 fun y H4 => ∃ acc, H4 D = some (.lst acc) ∧ acc.length < sizeLine ∧ Nx (upd H4 D (.lst (acc ++ [y]))) else Nx H3) := lc_rangeF (fun k => .bl (f k)) hn hD he fun H' s e => hd H' s (by rw [e, List.map_map]; rfl)
theorem lc_rangeI {lo : Int} {n i : Nat} {te : TE} {σ : L2.St} {H1 : Hp} {D : Addr} {Qd : Hp → Prop} (f : Nat → Int) (hn : n ≤ 100000) (hD : H1 D = none)
    (he : ∀ k, k < n → ∀ H2 (R : VK), Same H1 H2 → (∀ H4, Same H2 H4 → R (.int (f k)) H4) → te ((wipe σ [i]).set i (some (.int (lo + k)))) H2 R)
    (hd : ∀ H', Same H1 H' → H' D = some (.lst (((List.range n).map f).map V.int)) → Qd H') :
    ∃ W : Nat → Nat → Hp → Prop, (∃ m, W 0 m (upd H1 D (.lst []))) ∧ ∀ k m H, W k m H →
      ((Itr lo n).stop k H ∧ Qd H) ∨ ((Itr lo n).go k H ∧ ∃ Nx : Hp → Prop, (∀ H', Nx H' → ∃ m', m' < m ∧ W (k + 1) m' H') ∧ ∀ x H', (Itr lo n).yld k H x H' → gName i x (wipe σ [i]) H' fun σ2 H2 => wipe σ2 [i] = wipe σ [i] ∧ tYes σ2 H2 fun b H3 =>
        if b = true then te σ2 H3 fun y H4 => ∃ acc, H4 D = some (.lst acc) ∧ acc.length < sizeLine ∧ Nx (upd H4 D (.lst (acc ++ [y]))) else Nx H3) := lc_rangeF (fun k => .int (f k)) hn hD he fun H' s e => hd H' s (by rw [e, List.map_map]; rfl)
theorem atI_map {ns : List Int} {i : Nat} (h : i < ns.length) : atI (ns.map V.int) (0 + (i : Int)) = some (V.int (ns.getD i 0)) := by
  rw [Int.zero_add]
  refine atI_nat ?_
  rw [List.getElem?_map, List.getElem?_eq_getElem h]
  simp [List.getD, h]
theorem q_intB {k : Bool} {P : Int → Prop} {P' : Bool → Prop} (h : P' k) : (∃ i, [V.bl k] = [.int i] ∧ P i) ∨ ∃ k', [V.bl k] = [.bl k'] ∧ P' k' := .inr ⟨k, rfl, h⟩
theorem q_intI {i : Int} {P : Int → Prop} {P' : Bool → Prop} (h : P i) : (∃ j, [V.int i] = [.int j] ∧ P j) ∨ ∃ k', [V.int i] = [.bl k'] ∧ P' k' := .inl ⟨i, rfl, h⟩
theorem range_zip {g : Int → Int → Int} {ms ns : List Int} (hl : ns.length = ms.length) : ((List.range ms.length).map fun i => g (ms.getD i 0) (ns.getD i 0)) = List.zipWith g ms ns := by
  induction ms generalizing ns with
  | nil => rfl
  | cons m ms ih =>
    cases ns with
    | nil => simp at hl
    | cons n ns =>
      rw [List.length_cons, List.range_succ_eq_map, List.map_cons, List.map_map, List.zipWith_cons_cons, ← ih (ns := ns) (by simpa using hl)]
      rfl
theorem at0z {α : Type} {a : α} {xs : List α} : atI (a :: xs) (0 + ((0 : Nat) : Int)) = some a := atI_nat (j := 0) rfl
theorem at1z {α : Type} {a b : α} {xs : List α} : atI (a :: b :: xs) (0 + ((1 : Nat) : Int)) = some b := atI_nat (j := 1) rfl
theorem at2z {α : Type} {a b c : α} {xs : List α} : atI (a :: b :: c :: xs) (0 + ((2 : Nat) : Int)) = some c := atI_nat (j := 2) rfl
/-- over a list or a tuple -/
def iSeq (K : PySem.W.Frag) (tl : TE) : TI := fun σ H R => iList K tl σ H R ∨ iTup K tl σ H R
theorem kpi_seq {X : Cx} {K : PySem.W.Frag} {tg e : Expr} {tl : TE} (hK : X.K = K) (he : PE X e tl) : PI X tg e (iSeq K tl) := by
  subst hK
  refine ⟨fun pins s σ H R I h => ?_⟩
  rcases h with h | h
  · exact (pi_list he).run pins s σ H R I h
  · exact (pi_tup he).run pins s σ H R I h
theorem q_seqL {K : PySem.W.Frag} {tl : TE} {σ : L2.St} {H : Hp} {R : It → Hp → Prop} (h : tl σ H fun x H1 => ∃ a, x = .ref a ∧ (∃ xs, SqL K H1 a xs) ∧ R (Itl K a) H1) : iSeq K tl σ H R := .inl h
theorem q_seqT {K : PySem.W.Frag} {tl : TE} {σ : L2.St} {H : Hp} {R : It → Hp → Prop} (h : tl σ H fun x H1 => ∃ a, x = .ref a ∧ (∃ xs, SqT K H1 a xs) ∧ R (Itt K a) H1) : iSeq K tl σ H R := .inr h
theorem q_iTup {K : PySem.W.Frag} {tl : TE} {σ : L2.St} {H : Hp} {R : It → Hp → Prop} (h : tl σ H fun x H1 => ∃ a, x = .ref a ∧ (∃ xs, SqT K H1 a xs) ∧ R (Itt K a) H1) : iTup K tl σ H R := h
theorem q_iTupb {K : PySem.W.Frag} {a : Addr} {H : Hp} {xs : List V} {R : Addr → Prop} (h1 : SqT K H a xs) (h : R a) : ∃ b, V.ref a = .ref b ∧ (∃ xs, SqT K H b xs) ∧ R b := ⟨a, rfl, ⟨xs, h1⟩, h⟩
theorem kp_revL {X : Cx} {K : PySem.W.Frag} {e : Expr} {te : TE} {k : Nat} {p1 p2 p3 pos : Pos} (hK : X.K = K) (he : PE X e te) : PE X (.Subscript e (.Slice none none (some (.UnaryOp .USub (.Constant (.int 1) k p1) p2)) p3) pos) (tRevL K te) := by
  subst hK
  exact pe_revL he
theorem q_revL {K : PySem.W.Frag} {te : TE} {σ : L2.St} {H : Hp} {Q : VK} (h : te σ H fun x H1 => ∃ a xs, x = .ref a ∧ SqL K H1 a xs ∧ ∀ p, H1 p = none → Q (.ref p) (upd H1 p (.lst xs.reverse))) : tRevL K te σ H Q := h
theorem q_revLb {K : PySem.W.Frag} {H : Hp} {a : Addr} {xs : List V} {P : Addr → List V → Prop} (h1 : SqL K H a xs) (h : P a xs) : ∃ b xs, V.ref a = .ref b ∧ SqL K H b xs ∧ P b xs := ⟨a, xs, rfl, h1, h⟩
theorem q_yes {σ : L2.St} {H : Hp} {Q : Bool → Hp → Prop} (h : Q true H) : tYes σ H Q := h
theorem walk_zipT {K : PySem.W.Frag} {a b : Addr} {xs ys : List V} : Walk (RZ.ItzT K a b) (min xs.length ys.length) (fun H => SqT K H a xs ∧ SqT K H b ys) (YPair (fun i => xs[i]?) (fun i => ys[i]?)) := by
  constructor
  · rintro i H hi ⟨q1, q2⟩
    have h1 : i < xs.length := by omega
    have h2 : i < ys.length := by omega
    exact ⟨xs, ys, xs[i], ys[i], q1, q2, by simp [h1], by simp [h2]⟩
  · rintro H ⟨q1, q2⟩
    exact ⟨xs, ys, q1, q2, by omega⟩
  · rintro i H x H' hi ⟨q1, q2⟩ ⟨T, u, v, h1, h2, h3, h4, h5⟩
    exact ⟨T, u, v, h1, h2, h3, h4 xs q1, h5 ys q2⟩
/-- over two tuples side by side, each element a function of both items -/
theorem lc_zipF {K : PySem.W.Frag} {a b : Addr} {xs ys : List V} {i j : Nat} {g : TG} {te : TE} {σ : L2.St} {H1 : Hp} {D : Addr} {Qd : Hp → Prop} (f : V → V → V) (ha : SqT K H1 a xs) (hb : SqT K H1 b ys) (hl : xs.length ≤ 100000) (hD : H1 D = none)
    (he : ∀ x ∈ xs, ∀ y ∈ ys, ∀ p H2 (R : VK), Same H1 H2 → H2 p = some (.tup [x, y]) → (∀ H4, Same H2 H4 → R (f x y) H4) → g (.ref p) (wipe σ [i, j]) H2 fun σ2 H3 => wipe σ2 [i, j] = wipe σ [i, j] ∧ te σ2 H3 R)
    (hd : ∀ H', Same H1 H' → H' D = some (.lst ((xs.zip ys).map fun z => f z.1 z.2)) → Qd H') (gm : ∀ x H' Q Q', (∀ σ H, Q σ H → Q' σ H) → g x (wipe σ [i, j]) H' Q → g x (wipe σ [i, j]) H' Q') :
    ∃ W : Nat → Nat → Hp → Prop, (∃ m, W 0 m (upd H1 D (.lst []))) ∧ ∀ k m H, W k m H →
      ((RZ.ItzT K a b).stop k H ∧ Qd H) ∨ ((RZ.ItzT K a b).go k H ∧ ∃ Nx : Hp → Prop, (∀ H', Nx H' → ∃ m', m' < m ∧ W (k + 1) m' H') ∧ ∀ x H', (RZ.ItzT K a b).yld k H x H' → g x (wipe σ [i, j]) H' fun σ2 H2 => wipe σ2 [i, j] = wipe σ [i, j] ∧ tYes σ2 H2 fun b H3 =>
        if b = true then te σ2 H3 fun y H4 => ∃ acc, H4 D = some (.lst acc) ∧ acc.length < sizeLine ∧ Nx (upd H4 D (.lst (acc ++ [y]))) else Nx H3) := by
  refine lc_grow walk_zipT ((xs.zip ys).map fun z => f z.1 z.2) (by simp) (by omega) (fun _ s => ⟨s.seqT ha, s.seqT hb⟩) hD ?_ hd gm
  rintro k x H2 H' R hk s2 hy hR
  obtain ⟨p, u, v, rfl, hp, rfl, e1, e2⟩ := hy
  refine he u (List.mem_of_getElem? e1) v (List.mem_of_getElem? e2) p _ R (s2.trans (Same.new hp)) upd_same fun H4 s4 => hR _ _ ?_ ((Same.new hp).trans s4)
  rw [List.getElem?_map, show (xs.zip ys)[k]? = some (u, v) from List.getElem?_zip_eq_some.mpr ⟨e1, e2⟩]
  rfl
/-- the frame by its name, where the place is within a handler -/
theorem kbm {X : Cx} {K : PySem.W.Frag} {e : Expr} {T : String} {r : V → List V → Hp → VK → Prop} {to : TE} {t : TA} (hK : X.K = K) (h : PE X e (tBM X.K T r to t)) : PE X e (tBM K T r to t) := hK ▸ h

section
variable {K : PySem.W.Frag} {σ : L2.St} {H : Hp} {Q : VK} {C a dx : Addr} {m : Str} {fs : List (Str × V)} {E : XK} {sp : Sp} {ta : TE} {t tk : TA}
theorem q_methN {n j : Nat} {gV : List V → List V → List V} (h : ta σ H fun x H1 => ∃ a dx fs, x = .ref a ∧ H1 a = some (.ins C dx fs) ∧ fs.lookup m = none ∧ t σ H1 fun vs H2 => tk σ H2 fun zs H3 => vs.length = n ∧ zs.length = j ∧ sp (gV (x :: vs) zs) H3 Q E) : tMethN C m n j sp gV E ta t tk σ H Q := h
theorem q_enumT {R : It → Hp → Prop} (h : t σ H fun vs H1 => ∃ a xs, vs = [.ref a] ∧ SqT K H1 a xs ∧ R (ItEt K a) H1) : iEnumT K t σ H R := h
theorem q_enumTb {xs : List V} {R : Addr → Prop} (h1 : SqT K H a xs) (h : R a) : ∃ b xs, [V.ref a] = [.ref b] ∧ SqT K H b xs ∧ R b := ⟨a, xs, rfl, h1, h⟩
theorem q_insert {p : Addr} {xs : List V} {i : Int} {y : V} (h : H p = some (.lst xs)) (hl : xs.length < sizeLine) (h0 : 0 ≤ i) (h1 : i < 2 ^ 63) (q : Q .non (upd H p (.lst (xs.take i.toNat ++ [y] ++ xs.drop i.toNat)))) :
    ∃ (l : Addr) (xs : List V) (j : Int) (z : V), V.ref p = .ref l ∧ [V.int i, y] = [.int j, z] ∧ H l = some (.lst xs) ∧ xs.length < sizeLine ∧ 0 ≤ j ∧ j < 2 ^ 63 ∧ Q .non (upd H l (.lst (xs.take j.toNat ++ [z] ++ xs.drop j.toNat))) := ⟨p, xs, i, y, rfl, rfl, h, hl, h0, h1, q⟩
end
/-- side by side -/
inductive All2 {β : Type} (P : V → β → Prop) : List V → List β → Prop
  | nil : All2 P [] []
  | cons {x : V} {c : β} {xs : List V} {cs : List β} : P x c → All2 P xs cs → All2 P (x :: xs) (c :: cs)
section
variable {β : Type} {P P' : V → β → Prop} {xs ys : List V} {cs ds : List β} {x : V} {c : β}
theorem All2.len (h : All2 P xs cs) : xs.length = cs.length := by
  induction h with
  | nil => rfl
  | cons _ _ ih => simp [ih]
theorem All2.mono (h : All2 P xs cs) (m : ∀ x c, P x c → P' x c) : All2 P' xs cs := by
  induction h with
  | nil => exact .nil
  | cons a _ ih => exact .cons (m _ _ a) ih
theorem All2.app (h : All2 P xs cs) (h2 : All2 P ys ds) : All2 P (xs ++ ys) (cs ++ ds) := by
  induction h with
  | nil => exact h2
  | cons a _ ih => exact .cons a ih
theorem All2.snoc (h : All2 P xs cs) (hx : P x c) : All2 P (xs ++ [x]) (cs ++ [c]) := h.app (.cons hx .nil)
theorem All2.take (h : All2 P xs cs) (n : Nat) : All2 P (xs.take n) (cs.take n) := by
  induction h generalizing n with
  | nil => simp; exact .nil
  | cons a _ ih =>
    cases n with
    | zero => exact .nil
    | succ n => exact .cons a (ih n)
theorem All2.drop (h : All2 P xs cs) (n : Nat) : All2 P (xs.drop n) (cs.drop n) := by
  induction h generalizing n with
  | nil => simp; exact .nil
  | cons a t ih =>
    cases n with
    | zero => exact .cons a t
    | succ n => exact ih n
theorem All2.get (h : All2 P xs cs) {k : Nat} (e : xs[k]? = some x) : ∃ c, cs[k]? = some c ∧ P x c := by
  induction h generalizing k with
  | nil => simp at e
  | cons a _ ih =>
    cases k with
    | zero =>
      simp at e
      subst e
      exact ⟨_, rfl, a⟩
    | succ k => exact ih (by simpa using e)
theorem All2.mem (h : All2 P xs cs) (e : x ∈ xs) : ∃ c, c ∈ cs ∧ P x c := by
  obtain ⟨k, hk⟩ := List.mem_iff_getElem?.mp e
  obtain ⟨c, h1, h2⟩ := h.get hk
  exact ⟨c, List.mem_of_getElem? h1, h2⟩
theorem All2.maps {γ : Type} {R : V → γ → Prop} {f : β → γ} (h : All2 P xs cs) (m : ∀ x c, P x c → R x (f c)) : All2 R xs (cs.map f) := by
  induction h with
  | nil => exact .nil
  | cons a _ ih => exact .cons (m _ _ a) ih
theorem All2.ofMap {γ : Type} {f : β → γ} {R : V → γ → Prop} (h : All2 R xs (cs.map f)) : All2 (fun x c => R x (f c)) xs cs := by
  induction cs generalizing xs with
  | nil => cases h; exact .nil
  | cons c cs ih =>
    cases h with
    | cons a t => exact .cons a (ih t)
end
/-- slices by whole bounds that lie within -/
theorem cut_pre {xs : List V} {k : Nat} (h : k ≤ xs.length) : cutV xs none (some (k : Int)) = xs.take k := by
  unfold cutV
  rw [HT.sIx_none, HT.sIx_nat, Nat.min_eq_left h]
  simp
theorem cut_suf {xs : List V} {k : Nat} (h : k ≤ xs.length) : cutV xs (some (k : Int)) none = xs.drop k := by
  unfold cutV
  rw [HT.sIx_none, HT.sIx_nat, Nat.min_eq_left h]
  exact List.take_of_length_le (by rw [List.length_drop]; omega)
theorem inV_ints {k : Int} {ns : List Int} : inV (.int k) (ns.map V.int) = decide (k ∈ ns) := by
  unfold inV
  induction ns with
  | nil => rfl
  | cons n ns ih =>
    rw [List.map_cons, List.any_cons, ih]
    have e : eqV (.int n) (.int k) = decide (n = k) := by
      show (n == k) = decide (n = k)
      rfl
    rw [e]
    by_cases h : n = k
    · subst h
      simp
    · rw [decide_eq_false h, Bool.false_or]
      by_cases h2 : k ∈ ns
      · rw [decide_eq_true h2, decide_eq_true (List.mem_cons_of_mem _ h2)]
      · rw [decide_eq_false h2, decide_eq_false]
        intro z
        rcases List.mem_cons.mp z with z | z
        · exact h z.symm
        · exact h2 z
theorem flat_ints {ns : List Int} : (ns.map V.int).all flatV = true := by
  induction ns with
  | nil => rfl
  | cons n ns ih =>
    rw [List.map_cons, List.all_cons, ih]
    rfl
theorem q_inI {K : PySem.W.Frag} {H : Hp} {Q : VK} {p : Addr} {k : Int} {ns : List Int} (h : SqL K H p (ns.map V.int)) (q : Q (.bl (decide (k ∈ ns))) H) : rIn K false (.int k) (.ref p) H Q :=
  ⟨p, _, rfl, .inl h, rfl, flat_ints, by
    show Q (.bl (inV (.int k) (ns.map V.int))) H
    rw [inV_ints]
    exact q⟩
/-- a list or a tuple of these -/
def LT (H : Hp) (a : Addr) (xs : List V) : Prop := H a = some (.lst xs) ∨ H a = some (.tup xs)
theorem LT.same {H H' : Hp} {a : Addr} {xs : List V} (h : LT H a xs) (s : Same H H') : LT H' a xs := h.imp (fun e => s _ _ e) (fun e => s _ _ e)
theorem LT.ty {K : PySem.W.Frag} {H : Hp} {a : Addr} {xs : List V} (h : LT H a xs) : ∃ t, TyX K H (.ref a) t ∧ PySem.W.kitAny K t [.type "list", .type "tuple"] = some true := by
  rcases h with h | h
  · exact ⟨_, .base (.lst h), ka_t kt_list_list⟩
  · exact ⟨_, .base (.tup h), ka_f kt_tuple_list (ka_t kt_tuple_tuple)⟩
theorem LT.ob {H : Hp} {a : Addr} {xs : List V} (h : LT H a xs) : ∃ o, (o = .lst xs ∨ o = .tup xs) ∧ H a = some o := by
  rcases h with h | h
  · exact ⟨_, .inl rfl, h⟩
  · exact ⟨_, .inr rfl, h⟩
/-- a for over a list or a tuple that stays -/
theorem q_forSeq {K : PySem.W.Frag} {a : Addr} {xs : List V} {o : HO} {j : Nat} {g : TG} {tb : TS} {D : Ends} {σ : L2.St} {H : Hp} (hj : σ[j]? = some (some (.ref a))) (ho : o = .lst xs ∨ o = .tup xs) (h1 : H a = some o) (Pv : Nat → L2.St → Hp → Prop) (h0 : Pv 0 σ H) (hl : ∀ i σ H, i ≤ xs.length → Pv i σ H → H a = some o)
    (hs : ∀ i x σ H, xs[i]? = some x → Pv i σ H → g x σ H fun σ2 H2 => tb { D with nx := Pv (i + 1), ct := Pv (i + 1), bk := D.nx } σ2 H2) (hd : ∀ σ H, Pv xs.length σ H → D.nx σ H) :
    iSeq K (tVar j) σ H fun J H1 => ∃ W : Nat → Nat → L2.St → Hp → Prop, (∃ m, W 0 m σ H1) ∧ ∀ i m σ H, W i m σ H →
      (J.stop i H ∧ D.nx σ H) ∨ (J.go i H ∧ ∃ N : L2.St → Hp → Prop, (∀ σ' H', N σ' H' → ∃ m', m' < m ∧ W (i + 1) m' σ' H') ∧ ∀ x H', J.yld i H x H' → g x σ H' fun σ2 H2 => tb { D with nx := N, ct := N, bk := D.nx } σ2 H2) := by
  rcases ho with rfl | rfl
  · exact .inl ⟨_, hj, a, rfl, ⟨xs, SqL.of h1⟩, for_list Pv h0 (fun i σ H hi p => SqL.of (hl i σ H hi p)) hs hd⟩
  · exact .inr ⟨_, hj, a, rfl, ⟨xs, SqT.of h1⟩, for_tup Pv h0 (fun i σ H hi p => SqT.of (hl i σ H hi p)) hs hd⟩
theorem ixN_at {n j : Nat} (hj : j < n) : ixN n (j : Int) = some j := by
  show (if 0 ≤ (j : Int) then (if (j : Int) < n then some (j : Int).toNat else none) else _) = some j
  rw [if_pos (by omega), if_pos (by omega), Int.toNat_natCast]
/-- no list of the heap -/
def NoL (H : Hp) (x : V) : Prop := (∀ a, x ≠ .ref a) ∨ ∃ a o, x = .ref a ∧ H a = some o ∧ ∀ xs, o ≠ .lst xs
theorem NoL.same {H H' : Hp} {x : V} (h : NoL H x) (s : Same H H') : NoL H' x := by
  rcases h with h | ⟨a, o, e, h1, h2⟩
  · exact .inl h
  · exact .inr ⟨a, o, e, s _ _ h1, h2⟩
theorem NoL.no {H : Hp} {x : V} {a : Addr} {xs : List V} (h : NoL H x) (ex : x = .ref a) (e : H a = some (.lst xs)) : False := by
  rcases h with h | ⟨b, o, e2, h1, h2⟩
  · exact h a ex
  · rw [ex] at e2
    obtain rfl : a = b := V.ref.inj e2
    rw [e] at h1
    exact h2 xs (Option.some.inj h1).symm
/-- a pair of ints -/
def PairAt (H : Hp) (x : V) (c : Int × Int) : Prop := ∃ t, x = .ref t ∧ H t = some (.tup [.int c.1, .int c.2])
theorem PairAt.same {H H' : Hp} {x : V} {c : Int × Int} (h : PairAt H x c) (s : Same H H') : PairAt H' x c := by
  obtain ⟨t, e, h1⟩ := h
  exact ⟨t, e, s _ _ h1⟩
/-- a pair of ints that is not the thing at D -/
def PairD (D : Addr) (H : Hp) (x : V) (c : Int × Int) : Prop := ∃ t, x = .ref t ∧ t ≠ D ∧ H t = some (.tup [.int c.1, .int c.2])
theorem PairD.same {D : Addr} {H H' : Hp} {x : V} {c : Int × Int} (h : PairD D H x c) (s : Same H H') : PairD D H' x c := by
  obtain ⟨t, e, n, h1⟩ := h
  exact ⟨t, e, n, s _ _ h1⟩
theorem PairD.upd {D : Addr} {H : Hp} {x : V} {c : Int × Int} {o : HO} (h : PairD D H x c) : PairD D (upd H D o) x c := by
  obtain ⟨t, e, n, h1⟩ := h
  exact ⟨t, e, n, (upd_ne n).trans h1⟩
theorem PairD.at {D : Addr} {H : Hp} {x : V} {c : Int × Int} (h : PairD D H x c) : PairAt H x c := by
  obtain ⟨t, e, n, h1⟩ := h
  exact ⟨t, e, h1⟩
def pairOf (c : Int × Int) : PyData := .tuple [.int c.1, .int c.2]
theorem PairAt.dp {K : PySem.W.Frag} {H : Hp} {xs : List V} {cs : List (Int × Int)} (h : All2 (PairAt H) xs cs) : DpAll K H xs (cs.map pairOf) := by
  induction h with
  | nil => exact .nil
  | cons a _ ih =>
    obtain ⟨t, rfl, ht⟩ := a
    exact .cons (.tup (SqT.of ht) (.cons (.int _) (.cons (.int _) .nil))) ih
theorem eqv_pairs {cs ds : List (Int × Int)} : PyData.eqvAll (cs.map pairOf) (ds.map pairOf) = decide (cs = ds) := by
  induction cs generalizing ds with
  | nil => cases ds <;> simp [PyData.eqvAll]
  | cons c cs ih =>
    cases ds with
    | nil => simp [PyData.eqvAll]
    | cons d ds =>
      have e : PyData.eqv (pairOf c) (pairOf d) = decide (c = d) := by
        obtain ⟨c1, c2⟩ := c
        obtain ⟨d1, d2⟩ := d
        unfold pairOf
        simp only [PyData.eqv, PyData.eqvAll, Prod.mk.injEq, Bool.decide_and, Bool.and_true]
        rfl
      simp only [List.map_cons, PyData.eqvAll, ih, e, List.cons.injEq, Bool.decide_and]
theorem lay_pairs {cs : List (Int × Int)} : PyData.canLayAll0 (cs.map pairOf) = true := by
  induction cs with
  | nil => rfl
  | cons c cs ih =>
    show (PyData.canLay0 (pairOf c) && PyData.canLayAll0 (cs.map pairOf)) = true
    rw [ih]
    rfl
theorem depth_pairs {cs : List (Int × Int)} : PyData.depthAll (cs.map pairOf) ≤ 3 := by
  induction cs with
  | nil => exact Nat.zero_le _
  | cons c cs ih =>
    show max (PyData.depth (pairOf c)) (PyData.depthAll (cs.map pairOf)) ≤ 3
    have h1 : PyData.depth (pairOf c) ≤ 3 := by
      unfold pairOf
      exact (by decide : (PyData.depth (.tuple [.int 0, .int 0])) ≤ 3)
    omega
theorem sh_pairs {cs : List (Int × Int)} : SeqAt.shaped (.list (cs.map pairOf)) = true := by
  show (PyData.canLayAll0 (cs.map pairOf) && decide (PyData.depthAll (cs.map pairOf) + 1 ≤ 64)) = true
  rw [lay_pairs, Bool.true_and, decide_eq_true_eq]
  have := depth_pairs (cs := cs)
  omega
theorem q_neLP {K : PySem.W.Frag} {H : Hp} {Q : VK} {a b : Addr} {xs ys : List V} {cs ds : List (Int × Int)} (h1 : SqL K H a xs) (h2 : SqL K H b ys) (hx : All2 (PairAt H) xs cs) (hy : All2 (PairAt H) ys ds) (q : Q (.bl (!decide (cs = ds))) H) : rNeD K (.ref a) (.ref b) H Q :=
  q_neD (.lst h1 (PairAt.dp hx)) (.lst h2 (PairAt.dp hy)) sh_pairs sh_pairs (by rw [show PyData.eqv (.list (cs.map pairOf)) (.list (ds.map pairOf)) = decide (cs = ds) from eqv_pairs]; exact q)
theorem PairD.all {D : Addr} {H : Hp} {xs : List V} {cs : List (Int × Int)} (h : All2 (PairD D H) xs cs) : All2 (PairAt H) xs cs := h.mono fun _ _ z => z.at
theorem PairAt.all {H H' : Hp} {xs : List V} {cs : List (Int × Int)} (h : All2 (PairAt H) xs cs) (s : Same H H') : All2 (PairAt H') xs cs := h.mono fun _ _ z => z.same s
theorem PairAt.updL {H : Hp} {l : Addr} {zs xs : List V} {o : HO} {cs : List (Int × Int)} (h : All2 (PairAt H) xs cs) (e : H l = some (.lst zs)) : All2 (PairAt (upd H l o)) xs cs := h.mono fun x c z => by
  obtain ⟨t, ex, h1⟩ := z
  refine ⟨t, ex, (upd_ne (fun q => ?_)).trans h1⟩
  rw [q, e] at h1
  cases h1
theorem rep_ints {c : Int} {n : Nat} : (List.replicate n [V.int c]).flatten = (List.replicate n c).map V.int := by
  induction n with
  | zero => rfl
  | succ n ih => rw [List.replicate_succ, List.flatten_cons, ih]; rfl
theorem nn_rep {c : Int} {n : Nat} (h : 0 ≤ c) : NN ((List.replicate n c).map V.int) := NN.of fun m hm => by
  have := List.eq_of_mem_replicate hm
  omega
theorem atI_mapN {ns : List Int} {i : Nat} (h : i < ns.length) : atI (ns.map V.int) (i : Int) = some (V.int (ns.getD i 0)) := by
  have z := atI_map h
  rwa [Int.zero_add] at z
theorem set_cut {ms : List Int} {j : Nat} {x : Int} (h : j < ms.length) : (ms.map V.int).take j ++ [V.int x] ++ (ms.map V.int).drop (j + 1) = (ms.set j x).map V.int := by
  rw [List.set_eq_take_append_cons_drop, if_pos h, List.map_append, List.map_cons, List.map_take, List.map_drop, List.append_assoc]
  rfl
theorem at_all {α : Type} (xs : List α) (P : α → Prop) {i : Int} (hP : ∀ x ∈ xs, P x) (h0 : 0 ≤ i) (h1 : i < xs.length) : ∃ m, atI xs i = some m ∧ P m := by
  obtain ⟨j, rfl⟩ := Int.eq_ofNat_of_zero_le h0
  have hj : j < xs.length := by omega
  exact ⟨xs[j], atI_nat (by simp [hj]), hP _ (List.getElem_mem hj)⟩

section
variable {K : PySem.W.Frag} {σ : L2.St} {H : Hp} {Q : VK} {D : Ends} {a p : Addr} {x y v : V} {td ty to ti te : TE}
theorem q_augS {tget : V → V → Hp → VK → Prop} {tip : TIp} {tset : TSet} (h : to σ H fun o H1 => ti σ H1 fun i H2 => tget o i H2 fun x H3 => te σ H3 fun y H4 => tip x y H4 fun z H5 => tset o i z H5 fun H6 => D.nx σ H6) : tAugS to ti te tget tip tset D σ H := h
theorem q_getL {xs : List V} {j : Nat} (h : SqL K H p xs) (e : xs[j]? = some v) (q : Q v H) : rGetL K (.ref p) (.int (j : Nat)) H Q := ⟨p, xs, j, v, rfl, rfl, h, e, q⟩
theorem q_ipI {f : Int → Int → Int} {i j : Int} (q : Q (.int (f i j)) H) : ipI f (.int i) (.int j) H Q := ⟨i, j, rfl, rfl, q⟩
theorem q_setLN {xs : List V} {j : Nat} {Q : Hp → Prop} (h : H p = some (.lst xs)) (hj : j < xs.length) (q : Q (upd H p (.lst (xs.set j v)))) : rSetL (.ref p) (.int (j : Nat)) v H Q := q_setL h (ixN_at hj) q
theorem q_dget (h : td σ H fun x H1 => ty σ H1 fun y H2 => ∃ a v, x = .ref a ∧ DGet H2 a y (some v) ∧ Q v H2) : tDGet td ty σ H Q := h
theorem vv_pos {kvs : List (Key × V)} {s : Key} {v : V} : valV ((s, v) :: kvs) s = some v := valV_pos rfl
theorem q_dgetS {kvs : List (Key × V)} {s : Str} {P : V → Prop} (e : H a = some (.dK kvs)) (hv : valV kvs (.inr s) = some v) (h : P v) : ∃ b w, V.ref a = .ref b ∧ DGet H b (.str s) (some w) ∧ P w := ⟨a, v, rfl, hv ▸ (DGet.k e : DGet H a (kV (.inr s)) (valV kvs (.inr s))), h⟩
theorem q_inP {xs : List V} {cs : List (Int × Int)} {c : Int × Int} (h1 : SqL K H a xs) (h : All2 (PairAt H) xs cs) (hx : PairAt H x c) (q : Q (.bl (decide (c ∈ cs))) H) : rInD K x (.ref a) H Q := by
  obtain ⟨t, rfl, ht⟩ := hx
  refine ⟨pairOf c, cs.map pairOf, .tup (SqT.of ht) (.cons (.int _) (.cons (.int _) .nil)), .lst h1 (PairAt.dp h), rfl, sh_pairs, ?_⟩
  have e : ((cs.map pairOf).any fun z => PyData.eqv z (pairOf c)) = decide (c ∈ cs) := by
    clear h q
    induction cs with
    | nil => rfl
    | cons d cs ih =>
      have e1 : PyData.eqv (pairOf d) (pairOf c) = decide (d = c) := by
        obtain ⟨c1, c2⟩ := c
        obtain ⟨d1, d2⟩ := d
        unfold pairOf
        simp only [PyData.eqv, PyData.eqvAll, Prod.mk.injEq, Bool.decide_and, Bool.and_true]
        rfl
      rw [List.map_cons, List.any_cons, ih, e1]
      by_cases h : d = c
      · subst h
        simp
      · have h' : ¬ c = d := fun z => h z.symm
        simp [h, h']
  rw [e]
  exact q
theorem q_notInP {xs : List V} {cs : List (Int × Int)} {c : Int × Int} (h1 : SqL K H a xs) (h : All2 (PairAt H) xs cs) (hx : PairAt H x c) (q : Q (.bl (!decide (c ∈ cs))) H) : rNotInD K x (.ref a) H Q := by
  have z : rInD K x (.ref a) H (fun w H' => w = .bl (decide (c ∈ cs)) ∧ H' = H) := q_inP h1 h hx ⟨rfl, rfl⟩
  obtain ⟨d, ds, g1, g2, g3, g4, g5, _⟩ := z
  exact ⟨d, ds, g1, g2, g3, g4, by rw [V.bl.inj g5]; exact q⟩
end
theorem room1 {k : Nat} {A : Around} (r : Room k A) : A.units + 1 < cLine := by
  have := r.un
  omega
theorem room65 {k : Nat} {A : Around} (r : Room k A) : A.units + 65 < cLine := by
  have := r.un
  omega
/-- what is no whole number from l on -/
def NotWn (K : PySem.W.Frag) (H : Hp) (l : Int) (x : V) : Prop := (∃ n, x = .int n ∧ ¬ l ≤ n) ∨ (∃ b, x = .bl b) ∨ ∃ t, TyX K H x t ∧ PySem.W.kitOne K t (.type "int") = some false
theorem NotWn.same {K : PySem.W.Frag} {H H' : Hp} {l : Int} {x : V} (h : NotWn K H l x) (s : Same H H') : NotWn K H' l x := by
  rcases h with h | h | ⟨t, h1, h2⟩
  · exact .inl h
  · exact .inr (.inl h)
  · exact .inr (.inr ⟨t, h1.mono s, h2⟩)
theorem cut1 {x : V} {ys : List V} : cutV (x :: ys) (some 1) none = ys := cut_suf (xs := x :: ys) (k := 1) (by simp)
theorem slt1 {x : V} {ys : List V} : ¬ (HT.sIx (x :: ys).length 0 (some 1) = 0 ∧ HT.sIx (x :: ys).length (x :: ys).length none = (x :: ys).length) := fun h => by
  have z := h.1
  have e : HT.sIx (x :: ys).length 0 (some ((1 : Nat) : Int)) = min 1 (x :: ys).length := HT.sIx_nat _ _ _
  rw [show (1 : Int) = ((1 : Nat) : Int) from rfl, e, List.length_cons] at z
  omega
theorem kps_fld {X : Cx} {K : PySem.W.Frag} {st : Stmt} {ta tv : TE} {f : Str} (hK : X.K = K) (h : PS X st (sFld X.K ta tv f)) : PS X st (sFld K ta tv f) := hK ▸ h
/-- the rest of a tuple behind its first -/
theorem q_slT1 {K : PySem.W.Frag} {H : Hp} {Q : VK} {p : Addr} {x : V} {ys : List V} (h : H p = some (.tup (x :: ys))) (q : ∀ d, H d = none → Q (.ref d) (upd H d (.tup ys))) : rSlT K (.ref p) (some 1) none H Q := q_slT (SqT.of h) slt1 (by rw [cut1]; exact q)
theorem putF_nil {f : Str} {v : V} : putF f v [] = [(f, v)] := rfl
theorem putF_ne {f g : Str} {v z : V} {fs : List (Str × V)} (h : ¬ g = f) : putF f v ((g, z) :: fs) = (g, z) :: putF f v fs := by
  show (if g = f then (g, v) :: fs else (g, z) :: putF f v fs) = _
  rw [if_neg h]
theorem putF_hit {f : Str} {v z : V} {fs : List (Str × V)} : putF f v ((f, z) :: fs) = (f, v) :: fs := by
  show (if f = f then (f, v) :: fs else (f, z) :: putF f v fs) = _
  rw [if_pos rfl]
section
variable {H : Hp} {Q : VK} {p : Addr} {xs : List V}
theorem q_rep1 (h : H p = some (.lst xs)) (hl : xs.length ≤ 1000) (q : ∀ d, H d = none → Q (.ref d) (upd H d (.lst xs))) : rRep (.ref p) (.int (if true = true then 1 else 0)) H Q := by
  refine q_rep (k := 1) h (by decide) (by decide) (line_of (by show xs.length * 1 ≤ _; omega)) ?_
  have e : (List.replicate (1 : Int).toNat xs).flatten = xs := by
    show (List.replicate 1 xs).flatten = xs
    simp
  rw [e]
  exact q
theorem q_rep0 (h : H p = some (.lst xs)) (q : ∀ d, H d = none → Q (.ref d) (upd H d (.lst []))) : rRep (.ref p) (.int (if false = true then 1 else 0)) H Q := by
  refine q_rep (k := 0) h (by decide) (by decide) (line_of (by show xs.length * 0 ≤ _; omega)) ?_
  exact q
end
theorem Rd.up {H H' : Hp} (s : Same H H') {a : Addr} {o : HO} (h : Rd H a o) : Rd H' a o := h.imp (s _ _) (fun ⟨o, q⟩ => ⟨o, s _ _ q⟩)
theorem SqL.up {K : PySem.W.Frag} {H H' : Hp} (s : Same H H') {a : Addr} {xs : List V} (h : SqL K H a xs) : SqL K H' a xs := h.imp (Rd.up s) id
theorem SqT.up {K : PySem.W.Frag} {H H' : Hp} (s : Same H H') {a : Addr} {xs : List V} (h : SqT K H a xs) : SqT K H' a xs := h.imp (Rd.up s) id
mutual
theorem Dp.up {K : PySem.W.Frag} {H H' : Hp} (s : Same H H') {v : V} {d : PyData} : Dp K H v d → Dp K H' v d
  | .non => .non
  | .bl b => .bl b
  | .int i => .int i
  | .str x => .str x
  | .lst h ha => .lst (SqL.up s h) (DpAll.up s ha)
  | .tup h ha => .tup (SqT.up s h) (DpAll.up s ha)
theorem DpAll.up {K : PySem.W.Frag} {H H' : Hp} (s : Same H H') {vs : List V} {ds : List PyData} : DpAll K H vs ds → DpAll K H' vs ds
  | .nil => .nil
  | .cons h t => .cons (Dp.up s h) (DpAll.up s t)
end

/-! ### displays: each thing read by itself, with a continuation that is not known -/
def Con (P : Hp → V → Prop) (σ : L2.St) (t : TE) : Prop := ∀ H (Q : VK), (∀ v H', Same H H' → P H' v → Q v H') → t σ H Q
def ConA (P : Hp → V → Prop) (σ : L2.St) (n : Nat) (t : TA) : Prop := ∀ H (Q : List V → Hp → Prop), (∀ vs H', Same H H' → vs.length = n → (∀ v ∈ vs, P H' v) → Q vs H') → t σ H Q
theorem ConA.nil {P : Hp → V → Prop} {σ : L2.St} : ConA P σ 0 tNil := fun H Q k => q_nil (k [] H (Same.refl _) rfl (fun v h => nomatch h))
theorem ConA.cons {P : Hp → V → Prop} {σ : L2.St} {n : Nat} {t : TE} {u : TA} (hP : ∀ H H' v, Same H H' → P H v → P H' v) (h1 : Con P σ t) (h2 : ConA P σ n u) : ConA P σ (n + 1) (tCons t u) :=
  fun H Q k => q_cons (h1 _ _ fun v H1 s1 p1 => h2 _ _ fun vs H2 s2 l2 p2 => k (v :: vs) H2 (s1.trans s2) (by rw [List.length_cons, l2]) (fun w hw => by
    rcases List.mem_cons.mp hw with rfl | hw
    · exact hP _ _ _ s2 p1
    · exact p2 _ hw))
theorem q_lstC {P : Hp → V → Prop} {σ : L2.St} {n : Nat} {t : TA} {H : Hp} {Q : VK} (hP : ∀ H H' v, Same H H' → P H v → P H' v) (hn : n ≤ 1000) (h : ConA P σ n t) (q : ∀ l vs H', Same H H' → H l = none → H' l = some (.lst vs) → vs.length = n → (∀ v ∈ vs, P H' v) → Q (.ref l) H') : tLst t σ H Q :=
  q_lst (h H _ fun vs H1 s1 l1 p1 => ⟨by rw [l1]; exact Nat.le_trans hn (by decide), fun p hp => q p vs _ (s1.snew (s1.free hp)) (s1.free hp) upd_same l1 fun v hv => hP _ _ _ (Same.new hp) (p1 v hv)⟩)
theorem q_cut {t : TE} {σ : L2.St} {H : Hp} {Q : VK} (F : V → Hp → Prop) (h : ∀ Q : VK, (∀ v H', F v H' → Q v H') → t σ H Q) (k : ∀ v H', F v H' → Q v H') : t σ H Q := h Q k

theorem kmt_indexD {X : Cx} {K : PySem.W.Frag} (hK : X.K = K) (hu : X.A.units + 65 < cLine) : MtR X "list.index" (rIndexD K) := hK ▸ mt_indexD hu
section
variable {K : PySem.W.Frag} {σ : L2.St} {H : Hp} {Q : VK} {D : Ends} {a b p d : Addr} {x y v : V} {td ty : TE}
theorem eqv_pair {c e : Int × Int} : PyData.eqv (pairOf c) (pairOf e) = decide (c = e) := by
  obtain ⟨c1, c2⟩ := c
  obtain ⟨d1, d2⟩ := e
  unfold pairOf
  simp only [PyData.eqv, PyData.eqvAll, Prod.mk.injEq, Bool.decide_and, Bool.and_true]
  rfl
/-- the place of the first that is it -/
def firstAt (cs : List (Int × Int)) (c : Int × Int) : Nat := cs.findIdx (fun z => decide (z = c))
theorem q_index {xs : List V} {cs : List (Int × Int)} {c : Int × Int} (h1 : SqL K H a xs) (h : All2 (PairAt H) xs cs) (hx : PairAt H x c) (hm : c ∈ cs) (q : ∀ j : Nat, Q (.int (j : Nat)) H) : rIndexD K (.ref a) [x] H Q := by
  obtain ⟨t, rfl, ht⟩ := hx
  have hlt : firstAt cs c < cs.length := List.findIdx_lt_length_of_exists ⟨c, hm, by simp⟩
  refine ⟨a, _, pairOf c, cs.map pairOf, firstAt cs c, pairOf cs[firstAt cs c], rfl, rfl, .lst h1 (PairAt.dp h), .tup (SqT.of ht) (.cons (.int _) (.cons (.int _) .nil)), sh_pairs, rfl, by rw [List.getElem?_map, List.getElem?_eq_getElem hlt]; rfl, ?_, ?_, q _⟩
  · rw [eqv_pair]
    exact List.findIdx_getElem (w := hlt)
  · intro m z hmj hz
    rw [List.getElem?_map] at hz
    have hml : m < cs.length := Nat.lt_trans hmj hlt
    rw [List.getElem?_eq_getElem hml] at hz
    have hz : pairOf cs[m] = z := Option.some.inj hz
    rw [← hz, eqv_pair]
    have := List.not_of_lt_findIdx hmj
    simpa using this
theorem q_din (h : ty σ H fun y H1 => td σ H1 fun x H2 => ∃ a o, x = .ref a ∧ DGet H2 a y o ∧ Q (.bl o.isSome) H2) : tDIn ty td σ H Q := h
theorem q_dnotin (h : ty σ H fun y H1 => td σ H1 fun x H2 => ∃ a o, x = .ref a ∧ DGet H2 a y o ∧ Q (.bl (!o.isSome)) H2) : tDNotIn ty td σ H Q := h
theorem q_dT {P : Option V → Prop} {kvs : List (List Key × V)} {k : List Key} (h1 : H a = some (.dT kvs)) (h2 : H b = some (.tup (k.map kV))) (q : P (valV kvs k)) : ∃ a' o, V.ref a = .ref a' ∧ DGet H a' (.ref b) o ∧ P o := ⟨a, _, rfl, DGet.t h1 h2, q⟩
theorem q_dTs {P : V → Prop} {kvs : List (List Key × V)} {k : List Key} (h1 : H a = some (.dT kvs)) (h2 : H b = some (.tup (k.map kV))) (hv : valV kvs k = some v) (q : P v) : ∃ a' w, V.ref a = .ref a' ∧ DGet H a' (.ref b) (some w) ∧ P w := ⟨a, v, rfl, hv ▸ DGet.t h1 h2, q⟩
theorem q_setT {Q : Hp → Prop} {kvs : List (List Key × V)} {k : List Key} (h1 : H a = some (.dT kvs)) (h2 : H b = some (.tup (k.map kV))) (hl : kvs.length < 16777216) (q : Q (upd H a (.dT (putK kvs k v)))) : rSetD (.ref a) (.ref b) v H Q := ⟨a, _, rfl, .inr ⟨kvs, k, b, h1, rfl, h2, line_lt hl, rfl⟩, q⟩
theorem q_lockE {t : TE} {u : HO} (h : H d = some u) (hm : Mut (some u)) (q : ∀ od, t σ (upd H d (.frz od u)) fun v H' => H' d = some (.frz od u) ∧ Q v (upd H' d u)) : tLockE t σ H Q := ⟨d, u, h, hm, q⟩
theorem q_lock {t : TS} {u : HO} (h : H d = some u) (hm : Mut (some u)) (q : ∀ od, t ⟨fun σ' H' => H' d = some (.frz od u) ∧ D.nx σ' (upd H' d u), fun v H' => H' d = some (.frz od u) ∧ D.rt v (upd H' d u), fun σ' H' => H' d = some (.frz od u) ∧ D.bk σ' (upd H' d u), fun σ' H' => H' d = some (.frz od u) ∧ D.ct σ' (upd H' d u)⟩ σ (upd H d (.frz od u))) : tLock t D σ H := ⟨d, u, h, hm, q⟩
theorem q_keysT {R : It → Hp → Prop} {o : Obj} {kvs : List (List Key × V)} (h : td σ H fun x H1 => x = .ref d ∧ H1 d = some (.frz o (.dT kvs)) ∧ R (Itkt d o kvs) H1) (tm : ∀ Q Q' : VK, (∀ v H, Q v H → Q' v H) → td σ H Q → td σ H Q') : iKeys td σ H R :=
  tm _ _ (fun v H1 ⟨e, h1, q⟩ => ⟨d, o, e, .inr ⟨kvs, h1, q⟩⟩) h
end
/-! ### dicts whose keys are pairs -/
def keyOf (c : Int × Int) : List Key := [.inl c.1, .inl c.2]
theorem keyOf_inj {c d : Int × Int} (h : keyOf c = keyOf d) : c = d := by
  simp only [keyOf, List.cons.injEq, Sum.inl.injEq, and_true] at h
  exact Prod.ext h.1 h.2
theorem PairAt.key {H : Hp} {b : Addr} {c : Int × Int} (h : H b = some (.tup [.int c.1, .int c.2])) : H b = some (.tup ((keyOf c).map kV)) := h
def zk (ks : List (Int × Int)) (cl : List Addr) : List (List Key × V) := List.zipWith (fun k a => (keyOf k, V.ref a)) ks cl
theorem zk_len {ks : List (Int × Int)} {cl : List Addr} (h : ks.length = cl.length) : (zk ks cl).length = ks.length := by simp [zk, h]
theorem zk_some {c : Int × Int} : ∀ {ks : List (Int × Int)} {cl : List Addr}, ks.length = cl.length → c ∈ ks → ∃ a ∈ cl, valV (zk ks cl) (keyOf c) = some (.ref a)
  | [], _, _, h => nomatch h
  | k :: ks, [], e, _ => by simp at e
  | k :: ks, a :: cl, e, h => by
    by_cases hk : k = c
    · exact ⟨a, List.mem_cons_self .., by rw [show zk (k :: ks) (a :: cl) = (keyOf k, V.ref a) :: zk ks cl from rfl]; exact valV_pos (by rw [hk])⟩
    · rcases List.mem_cons.mp h with rfl | h
      · exact absurd rfl hk
      · obtain ⟨b, hb, hv⟩ := zk_some (cl := cl) (by simpa using e) h
        exact ⟨b, List.mem_cons_of_mem _ hb, by rw [show zk (k :: ks) (a :: cl) = (keyOf k, V.ref a) :: zk ks cl from rfl, valV_neg (fun w => hk (keyOf_inj w))]; exact hv⟩
theorem zk_none {c : Int × Int} : ∀ {ks : List (Int × Int)} {cl : List Addr}, c ∉ ks → valV (zk ks cl) (keyOf c) = none
  | [], cl, _ => by simp [zk, valV]
  | k :: ks, [], _ => by simp [zk, valV]
  | k :: ks, a :: cl, h => by
    rw [show zk (k :: ks) (a :: cl) = (keyOf k, V.ref a) :: zk ks cl from rfl, valV_neg (fun w => h (by rw [← keyOf_inj w]; exact List.mem_cons_self ..))]
    exact zk_none (fun w => h (List.mem_cons_of_mem _ w))
theorem zk_isSome {c : Int × Int} {ks : List (Int × Int)} {cl : List Addr} (e : ks.length = cl.length) : (valV (zk ks cl) (keyOf c)).isSome = decide (c ∈ ks) := by
  by_cases h : c ∈ ks
  · obtain ⟨a, _, hv⟩ := zk_some e h
    rw [hv, decide_eq_true h]
    rfl
  · rw [zk_none h, decide_eq_false h]
    rfl
theorem zk_put {c : Int × Int} {ks : List (Int × Int)} {cl : List Addr} {a : Addr} (e : ks.length = cl.length) (h : c ∉ ks) : putK (zk ks cl) (keyOf c) (.ref a) = zk (ks ++ [c]) (cl ++ [a]) := by
  have hn : ((zk ks cl).any fun kv => decide (kv.1 = keyOf c)) = false := by
    rw [List.any_eq_false]
    intro x hx
    simp only [zk] at hx
    obtain ⟨i, hi⟩ := List.getElem?_of_mem hx
    rw [List.getElem?_zipWith] at hi
    split at hi
    · rename_i k b hk hb
      have e1 := Option.some.inj hi
      rw [← e1]
      simp only [decide_eq_true_eq]
      intro w
      exact h (by rw [← keyOf_inj w]; exact List.mem_of_getElem? hk)
    · cases hi
  unfold putK
  rw [if_neg (by rw [hn]; simp)]
  simp [zk, List.zipWith_append e]
theorem zk_get {ks : List (Int × Int)} {cl : List Addr} {i : Nat} {k : List Key} {v : V} (h : (zk ks cl)[i]? = some (k, v)) : ∃ c ∈ ks, k = keyOf c := by
  simp only [zk, List.getElem?_zipWith] at h
  split at h
  · rename_i c b hk hb
    have e1 := Option.some.inj h
    exact ⟨c, List.mem_of_getElem? hk, (Prod.mk.inj e1).1.symm⟩
  · cases h
theorem q_dnewT {σ : L2.St} {H : Hp} {Q : VK} (h : ∀ p, H p = none → Q (.ref p) (upd H p (.dT []))) : tDNewT σ H Q := h
theorem q_listRg {σ : L2.St} {H : Hp} {Q : VK} {ta : TE} (h : ta σ H fun x H1 => ∃ n : Int, x = .int n ∧ 0 ≤ n ∧ n ≤ 1000 ∧ ∀ q, H1 q = none → Q (.ref q) (upd H1 q (.lst (rgV 0 n)))) (tm : ∀ Q Q' : VK, (∀ v H, Q v H → Q' v H) → ta σ H Q → ta σ H Q') : tLstRg (tRg1 ta) σ H Q :=
  tm _ _ (fun v H1 ⟨n, e, h0, h1, q⟩ => ⟨n, e, RgOk.of_le (Int.le_refl _) (by omega) (by decide) h0, q⟩) h
theorem tVar_m {i : Nat} {σ : L2.St} {H : Hp} : ∀ Q Q' : VK, (∀ v H, Q v H → Q' v H) → tVar i σ H Q → tVar i σ H Q' := fun _ _ m ⟨v, e, h⟩ => ⟨v, e, m _ _ h⟩
theorem rgV_map {n : Nat} : rgV 0 (n : Int) = ((List.range n).map fun k => ((k : Nat) : Int)).map V.int := by
  unfold rgV
  rw [List.map_map]
  simp
theorem ko_catT {X : Cx} {K : PySem.W.Frag} (hK : X.K = K) : OpR X (binaryOp .Add) (rCatT K) := hK ▸ op_catT
theorem q_catT {K : PySem.W.Frag} {H : Hp} {Q : VK} {a b : Addr} {xs ys : List V} (h1 : SqT K H a xs) (h2 : SqT K H b ys) (nx : xs ≠ []) (ny : ys ≠ []) (hl : xs.length + ys.length ≤ 1000) (q : ∀ p, H p = none → Q (.ref p) (upd H p (.tup (xs ++ ys)))) : rCatT K (.ref a) (.ref b) H Q :=
  ⟨a, b, xs, ys, rfl, rfl, h1, h2, nx, line_of (by omega), fun e => absurd e ny, fun _ => q⟩
theorem q_lenT2 {H : Hp} {Q : VK} {p : Addr} {kvs : List (List Key × V)} (h : H p = some (.dT kvs)) (q : Q (.int (kvs.length : Nat)) H) : rLenT [.ref p] H Q := ⟨p, kvs, rfl, h, q⟩

local macro_rules | `(tactic| walk_at "at") => `(tactic| first | assumption | with_reducible exact at0 | with_reducible exact at1 | with_reducible exact at2 | with_reducible exact at3 | with_reducible exact at4 | fail)
/-! ### steps: side conditions (sd), what stands at an address (lk, sq), a reading's next steps (rd) -/
local macro_rules | `(tactic| walk_at "ne") => `(tactic| first | assumption | (apply Ne.symm; assumption) | (refine' ne_of_none ?h1 ?h2; (case h1 => assumption); (case h2 => walk_at "fr")) | (refine' ne_of_none upd_same ?h2; (case h2 => walk_at "fr")) | (apply Ne.symm; refine' ne_of_none ?h1 ?h2; (case h1 => assumption); (case h2 => walk_at "fr")) | (apply Ne.symm; refine' ne_of_none upd_same ?h2; (case h2 => walk_at "fr")) | (refine' ne_of_none ?h1 ?h2; (case h2 => assumption); (case h1 => walk_at "lk")) | (apply Ne.symm; refine' ne_of_none ?h1 ?h2; (case h2 => assumption); (case h1 => walk_at "lk")) | fail)
local macro_rules | `(tactic| walk_at "lk") => `(tactic| first | assumption | exact upd_same | (refine' Eq.trans (upd_ne ?h1) ?h2; (case h1 => walk_at "ne"); (case h2 => walk_at "lk")) | (refine' same_at ?h1 ?h2; (case h1 => assumption); (case h2 => walk_at "lk")) | (refine' fr1_at ?h1 ?h2 ?h3; (case h1 => assumption); (case h2 => walk_at "ne"); (case h3 => walk_at "lk")) | fail)
local macro_rules | `(tactic| walk_at "sq") => `(tactic| first | assumption | ((with_reducible refine' SqL.of ?h1); (case h1 => walk_at "lk")) | ((with_reducible refine' SqT.of ?h1); (case h1 => walk_at "lk")) | ((with_reducible refine' Same.seq ?h1 ?h2); (case h1 => assumption); (case h2 => walk_at "sq")) | ((with_reducible refine' Same.seqT ?h1 ?h2); (case h1 => assumption); (case h2 => walk_at "sq")) | fail)
local macro_rules | `(tactic| walk_at "sd") => `(tactic| first | omega | (dsimp only; omega) | (simp only [PySem.Str.length_append]; omega) | with_reducible assumption | assumption | (simp; done) | (simp; omega) | decide | rfl | fail)
local macro_rules | `(tactic| walk_at "sdI") => `(tactic| first | (show (0:Int) < _; walk_at "sd") | exact wide_div (b := 8000) (by walk_at "sd") (by walk_at "sd") (by decide) (by decide) | exact Or.inr ⟨by walk_at "sd", by walk_at "sd"⟩ | exact Or.inl ⟨by walk_at "sd", by walk_at "sd"⟩ | exact ⟨by walk_at "sd", by walk_at "sd", by walk_at "sd"⟩ | walk_at "sd" | fail)
local macro_rules | `(tactic| walk_at "rd0") => `(tactic| first
  | with_reducible refine q_seq ?_ | with_reducible refine q_asg ?_ | with_reducible refine q_op ?_ | ((with_reducible refine' q_var ?h1 ?_); (case h1 => exact rfl)) | with_reducible refine q_c ?_
  | with_reducible refine q_gname ?_ | with_reducible refine q_test ?_ | with_reducible refine q_k ?_ | with_reducible refine q_cons ?_ | with_reducible refine q_nil ?_ | with_reducible refine q_cb ?_ | with_reducible refine q_call0 ?_ | ((with_reducible refine q_call ?_))
  | with_reducible refine q_if ?_ | with_reducible refine q_ret ?_ | with_reducible refine q_retN ?_ | with_reducible refine q_drop ?_ | with_reducible refine q_next ?_ | with_reducible refine q_brk ?_ | with_reducible refine q_cont ?_
  | with_reducible refine q_ifN ?_ | with_reducible refine q_ifA ?_ | with_reducible refine q_ifO ?_ | with_reducible refine q_ift ?_ | with_reducible refine q_iff ?_
  | with_reducible refine q_un ?_ | with_reducible refine q_B ?_ | with_reducible refine q_and ?_ | with_reducible refine q_or ?_ | with_reducible refine q_not ?_ | with_reducible refine q_andV ?_ | with_reducible refine q_orV ?_ | with_reducible refine q_notV ?_ | with_reducible refine q_ifE ?_ | with_reducible refine q_chain ?_
  | with_reducible refine q_gsub ?_ | with_reducible refine q_gnil ?_ | with_reducible refine q_gcons ?_ | with_reducible refine q_fld ?_ | with_reducible refine q_sl ?_ | with_reducible refine q_nopart ?_ | with_reducible refine q_part ?_ | with_reducible refine q_i ?_ | with_reducible refine q_bm ?_
  | with_reducible refine q_lst ?_ | with_reducible refine q_tup ?_ | ((with_reducible refine q_new ?h1 ?_); (case h1 => walk_at "sd"))
  | with_reducible refine q_I0 ?_ | ((with_reducible refine q_I ?h1 ?_); (case h1 => walk_at "sdI")) | with_reducible refine q_U ?_
  | with_reducible refine q_eqI ?_ | with_reducible refine q_eqS ?_ | with_reducible refine q_eqB ?_ | ((with_reducible refine q_eq0 ?h1 ?h2 ?_); (case h1 => rfl); (case h2 => (intro z; cases z)))
  | with_reducible refine q_neI ?_ | with_reducible refine q_neS ?_ | with_reducible refine q_neB ?_ | ((with_reducible refine q_ne0 ?h1 ?h2 ?_); (case h1 => rfl); (case h2 => (intro z; cases z)))
  | with_reducible refine q_isT ?_ | with_reducible refine q_isF ?_ | with_reducible refine q_notT ?_ | with_reducible refine q_notF ?_ | with_reducible refine q_isB ?_ | with_reducible refine q_notB ?_ | with_reducible refine q_isNonT ?_ | ((with_reducible refine q_isNonF ?h1 ?_); (case h1 => (intro z; cases z))) | with_reducible refine q_notNonF ?_ | ((with_reducible refine q_notNonT ?h1 ?_); (case h1 => (intro z; cases z)))
  | ((with_reducible refine' q_ixL ?h1 ?h2 ?_); (case h1 => walk_at "sq"); (case h2 => walk_at "at"))
  | ((with_reducible refine' q_ixT ?h1 ?h2 ?_); (case h1 => walk_at "sq"); (case h2 => walk_at "at"))
  | ((with_reducible refine' q_ixS ?h1 ?h2 ?_); (case h1 => walk_at "sd"); (case h2 => walk_at "at"))
  | ((with_reducible refine' q_setL ?h1 ?h2 ?_); (case h1 => walk_at "lk"); (case h2 => rfl))
  | ((with_reducible refine' q_append ?h1 ?h2 ?_); (case h1 => walk_at "lk"); (case h2 => (refine line_lt ?_; walk_at "sd")))
  | ((with_reducible refine' q_tyL ?h1 ?_); (case h1 => walk_at "lk"))
  | ((with_reducible refine' q_slL ?h1 ?_); (case h1 => walk_at "sq"))
  | ((with_reducible refine' q_cat ?h1 ?h2 ?h3 ?_); (case h1 => walk_at "lk"); (case h2 => walk_at "lk"); (case h3 => (refine line_of ?_; walk_at "sd")))
  | ((with_reducible refine q_addStr ?h1 ?_); (case h1 => (refine line_of ?_; walk_at "sd"))) | with_reducible refine q_ltStr ?_ | ((with_reducible refine' q_leStr1 ?h1 ?h2 ?_); (case h1 => (first | assumption | exact rfl)); (case h2 => (first | assumption | exact rfl))) | with_reducible refine q_leStr ?_ | ((with_reducible refine' q_all ?h1 ?_); (case h1 => walk_at "sq")) | ((with_reducible refine' q_any ?h1 ?_); (case h1 => walk_at "sq")) | with_reducible refine q_inSign ?_
  | ((with_reducible refine q_lenS ?h1 ?_); (case h1 => (refine line_of ?_; walk_at "sd"))) | ((with_reducible refine' q_lenL ?h1 ?_); (case h1 => walk_at "sq")) | ((with_reducible refine' q_lenT ?h1 ?_); (case h1 => walk_at "sq"))
  | ((with_reducible refine q_slS ?h1 ?_); (case h1 => (refine line_of ?_; walk_at "sd"))) | with_reducible refine q_callN ?_ | with_reducible refine q_2 rfl rfl ?_ | with_reducible refine q_make0 ?_ | with_reducible refine q_meth0 ?_
  | with_reducible refine q_for ?_ | with_reducible refine q_lc ?_ | with_reducible refine q_rng1 ?_ | ((with_reducible refine q_rng1b ?h1 ?h2 ?_); (case h1 => walk_at "sd"); (case h2 => walk_at "sd")) | with_reducible refine q_iList ?_ | ((with_reducible refine' q_iListb ?h1 ?_); (case h1 => walk_at "sq")) | with_reducible refine q_iStr ?_ | with_reducible refine q_iStrb ?_
  | ((with_reducible refine' q_listL ?h1 ?_); (case h1 => walk_at "sq")) | ((with_reducible refine' q_listT ?h1 ?_); (case h1 => walk_at "sq")) | ((with_reducible refine' q_tupleL ?h1 ?_); (case h1 => walk_at "sq")) | ((with_reducible refine' q_tupleT ?h1 ?_); (case h1 => walk_at "sq")) | ((with_reducible refine' q_sum ?h1 ?_); (case h1 => walk_at "sq"))
  | ((with_reducible refine' q_eqDt ?h1 ?h2 ?h3 ?h4 ?h5 ?_); (case h1 => walk_at "dp"); (case h2 => walk_at "dp"); (case h3 => exact rfl); (case h4 => exact rfl); (case h5 => walk_at "eqv"))
  | with_reducible refine q_dnewK ?_ | with_reducible refine q_disp ?_ | with_reducible refine q_pairs0 ?_ | with_reducible refine q_pairs ?_
  | ((with_reducible refine' q_isiT ?h1 ?h2 ?h3 ?h4 ?_); (case h1 => walk_at "lk"); (case h2 => walk_at "prd"); (case h3 => walk_at "tyx"); (case h4 => walk_at "kia"))
  | with_reducible refine q_sfld ?_ | ((with_reducible refine' q_sfldb ?h1 ?h2 ?h3 ?h4 ?_); (case h1 => walk_at "lk"); (case h2 => walk_at "cls"); (case h3 => walk_at "noa"); (case h4 => walk_at "sd")) | ((with_reducible refine' q_fldb ?h1 ?h2 ?h3 ?h4 ?_); (case h1 => walk_at "lk"); (case h2 => walk_at "cls"); (case h3 => walk_at "noa"); (case h4 => walk_at "lu"))
  | with_reducible refine q_nn ?_
  | with_reducible refine q_max2 ?_ | with_reducible refine q_min2 ?_
  | ((with_reducible refine' q_isi ?h1 ?h2 ?h3 ?_); (case h1 => (first | exact ClsV.ty _ | exact ClsV.own _)); (case h2 => walk_at "tyx"); (case h3 => walk_at "kit")) | fail)
local macro_rules | `(tactic| walk_at "tyx") => `(tactic| first | assumption | exact .base (.int _) | exact .base (.str _) | exact .base (.bl _) | exact .base .non | exact .base (.lst (by assumption)) | exact .base (.tup (by assumption)) | exact .base (.dK (by assumption)) | walk_at "tya" | walk_at "tyo" | ((with_reducible refine' .base (.lst ?h1)); (case h1 => walk_at "lk")) | ((with_reducible refine' .base (.tup ?h1)); (case h1 => walk_at "lk")) | ((with_reducible refine' .base (.dK ?h1)); (case h1 => walk_at "lk")) | (refine' TyX.mono ?h1 ?h2; (case h1 => assumption); (case h2 => walk_at "sm")) | fail)
local macro_rules | `(tactic| walk_at "kit") => `(tactic| first | assumption | walk_at "kio" | with_reducible exact kt_NoneType_int | with_reducible exact kt_NoneType_str | with_reducible exact kt_NoneType_bool | with_reducible exact kt_NoneType_list | with_reducible exact kt_NoneType_tuple | with_reducible exact kt_NoneType_dict | with_reducible exact kt_bool_int | with_reducible exact kt_bool_str | with_reducible exact kt_bool_bool | with_reducible exact kt_bool_list | with_reducible exact kt_bool_tuple | with_reducible exact kt_bool_dict | with_reducible exact kt_int_int | with_reducible exact kt_int_str | with_reducible exact kt_int_bool | with_reducible exact kt_int_list | with_reducible exact kt_int_tuple | with_reducible exact kt_int_dict | with_reducible exact kt_str_int | with_reducible exact kt_str_str | with_reducible exact kt_str_bool | with_reducible exact kt_str_list | with_reducible exact kt_str_tuple | with_reducible exact kt_str_dict | with_reducible exact kt_list_int | with_reducible exact kt_list_str | with_reducible exact kt_list_bool | with_reducible exact kt_list_list | with_reducible exact kt_list_tuple | with_reducible exact kt_list_dict | with_reducible exact kt_tuple_int | with_reducible exact kt_tuple_str | with_reducible exact kt_tuple_bool | with_reducible exact kt_tuple_list | with_reducible exact kt_tuple_tuple | with_reducible exact kt_tuple_dict | with_reducible exact kt_dict_int | with_reducible exact kt_dict_str | with_reducible exact kt_dict_bool | with_reducible exact kt_dict_list | with_reducible exact kt_dict_tuple | with_reducible exact kt_dict_dict | fail)
local macro_rules | `(tactic| walk_at "rd") => `(tactic| repeat (first | walk_at "rd0" | walk_at "rc" | ((with_reducible refine q_ifd ?h1 ?_); (case h1 => walk_at "cd")) | ((with_reducible refine q_ifn ?h1 ?_); (case h1 => walk_at "cd")) | intro _))
local macro_rules | `(tactic| walk_at "sp") => `(tactic| first | with_reducible refine q_ifx (fun _ => ?_) (fun _ => ?_) | with_reducible refine q_ifs (fun _ => ?_) (fun _ => ?_) | fail)
local macro_rules | `(tactic| walk_at "rdx") => `(tactic| (walk_at "rd"; (try (walk_at "sp" <;> walk_at "rdx"))))
local macro_rules | `(tactic| walk_at "sv") => `(tactic| first | rfl | (simp_all; done) | (simp_all; omega) | (simp_all <;> intros <;> omega) | (simp; omega) | fail)
local macro_rules | `(tactic| walk_at "dp") => `(tactic| first | assumption | exact Dp.int _ | exact Dp.bl _ | exact Dp.str _ | exact Dp.non | ((with_reducible refine' Dp.lst ?h1 ?h2); (case h1 => walk_at "sq"); (case h2 => walk_at "dps")) | ((with_reducible refine' Dp.tup ?h1 ?h2); (case h1 => walk_at "sq"); (case h2 => walk_at "dps")) | fail)
local macro_rules | `(tactic| walk_at "dps") => `(tactic| first | assumption | exact DpAll.nil | ((with_reducible refine' DpAll.cons ?h1 ?h2); (case h1 => walk_at "dp"); (case h2 => walk_at "dps")) | fail)
local macro_rules | `(tactic| walk_at "rf") => `(tactic| first | assumption | exact cs_0 | exact cs_9 | exact cs_a | exact cs_z | exact rfl | fail)
local macro_rules | `(tactic| walk_at "fr") => `(tactic| first | assumption | exact upd_free (by assumption) | exact upd_free (upd_free (by assumption)) | exact upd_free (upd_free (upd_free (by assumption))) | exact upd_free (upd_free (upd_free (upd_free (by assumption)))) | exact upd_free (upd_free (upd_free (upd_free (upd_free (by assumption))))) | exact upd_free (upd_free (upd_free (upd_free (upd_free (upd_free (by assumption)))))) | exact upd_free (upd_free (upd_free (upd_free (upd_free (upd_free (upd_free (by assumption))))))) | exact upd_free (upd_free (upd_free (upd_free (upd_free (upd_free (upd_free (upd_free (by assumption)))))))) | exact upd_free (upd_free (upd_free (upd_free (upd_free (upd_free (upd_free (upd_free (upd_free (by assumption))))))))) | exact upd_free (upd_free (upd_free (upd_free (upd_free (upd_free (upd_free (upd_free (upd_free (upd_free (by assumption)))))))))) | exact upd_free (upd_free (upd_free (upd_free (upd_free (upd_free (upd_free (upd_free (upd_free (upd_free (upd_free (by assumption))))))))))) | exact upd_free (upd_free (upd_free (upd_free (upd_free (upd_free (upd_free (upd_free (upd_free (upd_free (upd_free (upd_free (by assumption)))))))))))) | exact upd_free (upd_free (upd_free (upd_free (upd_free (upd_free (upd_free (upd_free (upd_free (upd_free (upd_free (upd_free (upd_free (by assumption))))))))))))) | exact upd_free (upd_free (upd_free (upd_free (upd_free (upd_free (upd_free (upd_free (upd_free (upd_free (upd_free (upd_free (upd_free (upd_free (by assumption)))))))))))))) | exact upd_free (upd_free (upd_free (upd_free (upd_free (upd_free (upd_free (upd_free (upd_free (upd_free (upd_free (upd_free (upd_free (upd_free (upd_free (by assumption))))))))))))))) | (refine' Same.free ?h1 ?h2; (case h1 => assumption); (case h2 => walk_at "fr")) | fail)
local macro_rules | `(tactic| walk_at "sm") => `(tactic| first | assumption | exact Same.refl _ | (refine Same.snew ?h1 ?h2; (case h2 => walk_at "fr"); (case h1 => walk_at "sm")) | (refine' Same.fr1 ?h1 ?h2 ?h3; (case h2 => assumption); (case h3 => walk_at "fr"); (case h1 => walk_at "sm")) | (refine' Same.trans ?h1 ?h2; (case h2 => assumption); (case h1 => walk_at "sm")) | fail)
local macro_rules | `(tactic| walk_at "eqv") => `(tactic| first | (simp [PyData.eqv, PyData.eqvAll, *]; done) | (simp_all [PyData.eqv, PyData.eqvAll]; done) | fail)
local macro_rules | `(tactic| walk_at "prd") => `(tactic| first | exact Paired.nil | (refine' Paired.cons ?h1 ?h2; (case h1 => (first | exact ClsV.ty _ | exact ClsV.own _)); (case h2 => walk_at "prd")) | fail)
local macro_rules | `(tactic| walk_at "kia") => `(tactic| first | assumption | exact ka_nil | exact ka_t (by walk_at "kit") | (refine ka_f (by walk_at "kit") ?_; walk_at "kia") | fail)
local macro_rules | `(tactic| walk_at "lu") => `(tactic| first | assumption | with_reducible exact lu_hd | (refine Eq.trans (lu_tl (by decide +kernel)) ?_; walk_at "lu") | fail)
local macro_rules | `(tactic| walk_at "nn") => `(tactic| first | assumption | exact NN.nil | (refine NN.cons (by walk_at "sd") ?_; walk_at "nn") | fail)
local macro_rules | `(tactic| walk_at "rdn") => `(tactic| repeat (first | walk_at "rd0" | walk_at "rc" | ((with_reducible refine q_ifd ?h1 ?_); (case h1 => walk_at "cd")) | ((with_reducible refine q_ifn ?h1 ?_); (case h1 => walk_at "cd"))))

local macro_rules | `(tactic| walk_at "as") => `(tactic| first | assumption | fail)
local macro_rules | `(tactic| walk_at "lun") => `(tactic| first | assumption | exact lu_nil | (refine lu_tlN (by decide +kernel) ?_; walk_at "lun") | fail)
local macro_rules | `(tactic| walk_at "xm") => `(tactic| first
  | walk_at "xm1"
  | (refine' Eq.trans (xa_cons ?h1 (xa_cons ?h2 xa_nil)) ?h3; (case h1 => walk_at "xm1"); (case h2 => walk_at "xm1"); (case h3 => exact rfl))
  | (refine' Eq.trans (xa_cons ?h1 (xa_cons ?h2 (xa_cons ?h4 xa_nil))) ?h3; (case h1 => walk_at "xm1"); (case h2 => walk_at "xm1"); (case h4 => walk_at "xm1"); (case h3 => exact rfl))
  | (refine' Eq.trans (xa_cons ?h1 (xa_cons ?h2 (xa_cons ?h4 (xa_cons ?h5 xa_nil)))) ?h3; (case h1 => walk_at "xm1"); (case h2 => walk_at "xm1"); (case h4 => walk_at "xm1"); (case h5 => walk_at "xm1"); (case h3 => exact rfl)) | fail)
local macro_rules | `(tactic| walk_at "e1") => `(tactic| first | assumption | exact E1.same _ | exact e1_str | exact e1_int | exact e1_bl | exact e1_non | fail)
local macro_rules | `(tactic| walk_at "e1s") => `(tactic| first | assumption | exact E1s.nil | ((with_reducible refine' E1s.cons ?h1 ?h2); (case h1 => walk_at "e1"); (case h2 => walk_at "e1s")) | fail)
local macro_rules | `(tactic| walk_at "rd0") => `(tactic| first
  | with_reducible refine q_raise ?_ | with_reducible refine q_try ?_ | with_reducible refine q_wE ?_
  | ((with_reducible refine' q_clN ?h1 ?_); (case h1 => walk_at "xm")) | ((with_reducible refine' q_clN0 ?h1 ?_); (case h1 => walk_at "xm"))
  | ((with_reducible refine' q_clP ?h1 ?_); (case h1 => walk_at "xm")) | ((with_reducible refine' q_clP0 ?h1 ?_); (case h1 => walk_at "xm"))
  | with_reducible refine q_xg ?_ | ((with_reducible refine' q_xgb ?h1 ?h2 ?h3 ?h4 ?_); (case h1 => walk_at "lk"); (case h2 => walk_at "xf"); (case h3 => walk_at "xn"); (case h4 => walk_at "lu"))
  | ((with_reducible refine' q_isX ?h1 ?h2 ?h3 ?h4 ?_); (case h1 => walk_at "lk"); (case h2 => walk_at "xc"); (case h3 => (first | exact ClsV.ty _ | exact ClsV.own _)); (case h4 => walk_at "kit"))
  | with_reducible refine q_callSD ?_ | with_reducible refine q_methE ?_ | with_reducible refine q_makeE ?_ | ((with_reducible refine' q_methb ?h1 ?h2 ?_); (case h1 => walk_at "lk"); (case h2 => walk_at "lun"))
  | ((with_reducible refine' q_lenO ?h1 ?_); (case h1 => walk_at "lk")) | ((with_reducible refine' q_lenI ?h1 ?h2 ?_); (case h1 => walk_at "sd"); (case h2 => walk_at "sd"))
  | ((with_reducible refine' q_eqO ?h1 ?h2 ?_); (case h1 => walk_at "lk"); (case h2 => walk_at "lk")) | with_reducible refine q_bz ?_
  | ((with_reducible refine' q_fldP ?h1 ?h2 ?h3 ?h4 ?_); (case h1 => walk_at "lk"); (case h2 => walk_at "cls"); (case h3 => walk_at "noa"); (case h4 => walk_at "lu"))
  | ((with_reducible refine' q_eqTI ?h1 ?h2 ?_); (case h1 => walk_at "sq"); (case h2 => walk_at "sq")) | ((with_reducible refine' q_neTI ?h1 ?h2 ?_); (case h1 => walk_at "sq"); (case h2 => walk_at "sq")) | ((with_reducible refine' q_eqLI ?h1 ?h2 ?_); (case h1 => walk_at "sq"); (case h2 => walk_at "sq")) | ((with_reducible refine' q_neLI ?h1 ?h2 ?_); (case h1 => walk_at "sq"); (case h2 => walk_at "sq"))
  | with_reducible refine q_revL ?_ | ((with_reducible refine' q_revLb ?h1 ?_); (case h1 => walk_at "sq")) | with_reducible refine q_iTup ?_ | ((with_reducible refine' q_iTupb ?h1 ?_); (case h1 => walk_at "sq"))
  | with_reducible refine q_intB ?_ | with_reducible refine q_intI ?_ | with_reducible refine q_yes ?_ | ((with_reducible refine' q_ixL ?h1 ?h2 ?_); (case h1 => walk_at "sq"); (case h2 => (refine atI_map ?_; walk_at "sd")))
  | with_reducible refine q_zipA ?_ | ((with_reducible refine' q_zipT ?h1 ?h2 ?_); (case h1 => walk_at "sq"); (case h2 => walk_at "sq")) | ((with_reducible refine' q_gtup ?h1 ?h2 ?_); (case h1 => walk_at "sq"); (case h2 => exact rfl))
  | ((with_reducible refine' q_neXT ?h1 ?h2 ?h3 ?_); (case h1 => walk_at "sq"); (case h2 => walk_at "sq"); (case h3 => walk_at "e1s")) | ((with_reducible refine' q_eqXT ?h1 ?h2 ?h3 ?_); (case h1 => walk_at "sq"); (case h2 => walk_at "sq"); (case h3 => walk_at "e1s")) | fail)
local macro_rules | `(tactic| walk_at "sd") => `(tactic| first | omega | (simp only [List.length_map, List.length_range, List.length_cons, List.length_nil, List.length_append, List.length_zip, List.length_zipWith] at *; omega) | fail)
local macro_rules | `(tactic| walk_at "cd") => `(tactic| first | assumption | omega | (simp only [List.length_map, List.length_range, List.length_cons, List.length_nil, List.length_append]; omega) | with_reducible decide | exact rfl | fail)

local macro_rules | `(tactic| walk_at "at") => `(tactic| first | with_reducible exact at0z | with_reducible exact at1z | with_reducible exact at2z | fail)

local macro_rules | `(tactic| walk_at "rd0") => `(tactic| first
  | with_reducible refine q_meth0 ?_ | with_reducible refine q_methd ?_ | with_reducible refine q_methE ?_ | with_reducible refine q_methEd ?_ | with_reducible refine q_methN ?_ | with_reducible refine q_enumT ?_ | ((with_reducible refine' q_enumTb ?h1 ?_); (case h1 => walk_at "sq"))
  | ((with_reducible refine' q_insert ?h1 ?h2 ?h3 ?h4 ?_); (case h1 => walk_at "lk"); (case h2 => (refine line_lt ?_; walk_at "sd")); (case h3 => walk_at "sd"); (case h4 => walk_at "sd"))
  | ((with_reducible refine' q_ixL ?h1 ?h2 ?_); (case h1 => walk_at "sq"); (case h2 => ((with_reducible refine atI_mapN ?_); walk_at "sd")))
  | ((with_reducible refine' q_ixT ?h1 ?h2 ?_); (case h1 => walk_at "sq"); (case h2 => ((with_reducible refine atI_mapN ?_); walk_at "sd")))
  | ((with_reducible refine' q_inI ?h1 ?_); (case h1 => walk_at "sq")) | fail)

local macro_rules | `(tactic| walk_at "vv") => `(tactic| first | exact vv_pos | (refine' Eq.trans (valV_neg ?hn) ?_; (case hn => (show ¬ ((Sum.inr _ : Key) = Sum.inr _); decide +kernel)); walk_at "vv") | fail)
local macro_rules | `(tactic| walk_at "rd0") => `(tactic| first
  | with_reducible refine q_augS ?_ | ((with_reducible refine' q_getL ?h1 ?h2 ?_); (case h1 => walk_at "sq"); (case h2 => assumption)) | with_reducible refine q_ipI ?_
  | ((with_reducible refine' q_setLN ?h1 ?h2 ?_); (case h1 => walk_at "lk"); (case h2 => walk_at "sd"))
  | ((with_reducible refine' q_slT1 ?h1 ?_); (case h1 => walk_at "lk"))
  | ((with_reducible refine' q_rep1 ?h1 ?h2 ?_); (case h1 => walk_at "lk"); (case h2 => walk_at "sd")) | ((with_reducible refine' q_rep0 ?h1 ?_); (case h1 => walk_at "lk"))
  | with_reducible refine q_dget ?_ | ((with_reducible refine' q_dgetS ?h1 ?h2 ?_); (case h1 => walk_at "lk"); (case h2 => walk_at "vv")) | fail)

local macro_rules | `(tactic| walk_at "rd0") => `(tactic| first
  | with_reducible refine q_din ?_ | with_reducible refine q_dnotin ?_ | with_reducible refine q_dnewT ?_ | fail)

def topS (i : Nat) : Stmt := PySem.Challenge.pw_causehall_k17_alike_histories.main.body.getD i (.Pass ⟨0, 0, 0, 0⟩)

abbrev s_is_whole : Stmt := topS 6
theorem sc_is_whole : FnScope ["thing", "low", "high"] ["thing", "low", "high"] (defScope s_is_whole) := ⟨rfl, rfl, rfl, by decide +kernel, rfl, by decide +kernel, by decide +kernel⟩
abbrev s_is_text_of : Stmt := topS 8
theorem sc_is_text_of : FnScope ["thing", "first", "last", "most", "sign"] ["thing", "first", "last", "most"] (defScope s_is_text_of) := ⟨rfl, rfl, rfl, by decide +kernel, rfl, by decide +kernel, by decide +kernel⟩
abbrev s_is_word : Stmt := topS 7
theorem sc_is_word : FnScope ["thing"] ["thing"] (defScope s_is_word) := ⟨rfl, rfl, rfl, by decide +kernel, rfl, by decide +kernel, by decide +kernel⟩
abbrev s_is_list : Stmt := topS 13
theorem sc_is_list : FnScope ["thing"] ["thing"] (defScope s_is_list) := ⟨rfl, rfl, rfl, by decide +kernel, rfl, by decide +kernel, by decide +kernel⟩
abbrev s_is_member : Stmt := topS 14
theorem sc_is_member : FnScope ["thing", "members"] ["thing", "members"] (defScope s_is_member) := ⟨rfl, rfl, rfl, by decide +kernel, rfl, by decide +kernel, by decide +kernel⟩
abbrev s_is_ident : Stmt := topS 15
theorem sc_is_ident : FnScope ["thing", "members", "high"] ["thing", "members", "high"] (defScope s_is_ident) := ⟨rfl, rfl, rfl, by decide +kernel, rfl, by decide +kernel, by decide +kernel⟩
abbrev s_check_members : Stmt := topS 16
theorem sc_check_members : FnScope ["members"] ["members"] (defScope s_check_members) := ⟨rfl, rfl, rfl, by decide +kernel, rfl, by decide +kernel, by decide +kernel⟩
abbrev s_is_row : Stmt := topS 22
theorem sc_is_row : FnScope ["thing", "members"] ["thing", "members"] (defScope s_is_row) := ⟨rfl, rfl, rfl, by decide +kernel, rfl, by decide +kernel, by decide +kernel⟩
abbrev s_own_rows : Stmt := topS 23
theorem sc_own_rows : FnScope ["rows", "member", "row"] ["rows", "member"] (defScope s_own_rows) := ⟨rfl, rfl, rfl, by decide +kernel, rfl, by decide +kernel, by decide +kernel⟩
abbrev s_is_history : Stmt := topS 19
theorem sc_is_history : FnScope ["members", "rows", "row"] ["members", "rows"] (defScope s_is_history) := ⟨rfl, rfl, rfl, by decide +kernel, rfl, by decide +kernel, by decide +kernel⟩
abbrev s_check_history : Stmt := topS 21
theorem sc_check_history : FnScope ["members", "rows"] ["members", "rows"] (defScope s_check_history) := ⟨rfl, rfl, rfl, by decide +kernel, rfl, by decide +kernel, by decide +kernel⟩
abbrev s_alike_to : Stmt := topS 20
theorem sc_alike_to : FnScope ["members", "rows", "others", "member"] ["members", "rows", "others"] (defScope s_alike_to) := ⟨rfl, rfl, rfl, by decide +kernel, rfl, by decide +kernel, by decide +kernel⟩
abbrev s_law_cell_at : Stmt := topS 25
theorem sc_law_cell_at : FnScope ["script", "k"] ["script", "k"] (defScope s_law_cell_at) := ⟨rfl, rfl, rfl, by decide +kernel, rfl, by decide +kernel, by decide +kernel⟩
abbrev s_law_take : Stmt := topS 27
theorem sc_law_take : FnScope ["pool", "size", "found"] ["pool", "size"] (defScope s_law_take) := ⟨rfl, rfl, rfl, by decide +kernel, rfl, by decide +kernel, by decide +kernel⟩
abbrev s_law_pool : Stmt := topS 26
theorem sc_law_pool : FnScope ["cell", "number", "k", "mix"] ["cell"] (defScope s_law_pool) := ⟨rfl, rfl, rfl, by decide +kernel, rfl, by decide +kernel, by decide +kernel⟩
abbrev s_law_model : Stmt := topS 28
theorem sc_law_model : FnScope ["members", "got", "later", "k"] ["members"] (defScope s_law_model) := ⟨rfl, rfl, rfl, by decide +kernel, rfl, by decide +kernel, by decide +kernel⟩
abbrev s_law_otherwise : Stmt := topS 29
theorem sc_law_otherwise : FnScope ["model", "member", "place", "ident", "k", "row"] ["model", "member", "place", "ident"] (defScope s_law_otherwise) := ⟨rfl, rfl, rfl, by decide +kernel, rfl, by decide +kernel, by decide +kernel⟩
abbrev s_law_has : Stmt := topS 30
theorem sc_law_has : FnScope ["model", "rows", "ident", "cause"] ["model", "rows", "ident"] (defScope s_law_has) := ⟨rfl, rfl, rfl, by decide +kernel, rfl, by decide +kernel, by decide +kernel⟩
abbrev s_law_why_got : Stmt := topS 31
theorem sc_law_why_got : FnScope ["model", "member", "ident", "rows"] ["model", "member", "ident"] (defScope s_law_why_got) := ⟨rfl, rfl, rfl, by decide +kernel, rfl, by decide +kernel, by decide +kernel⟩
abbrev s_law_why : Stmt := topS 32
theorem sc_law_why : FnScope ["model", "row", "member", "ident", "rows"] ["model", "row"] (defScope s_law_why) := ⟨rfl, rfl, rfl, by decide +kernel, rfl, by decide +kernel, by decide +kernel⟩
abbrev s_law_go : Stmt := topS 33
theorem sc_law_go : FnScope ["model", "row", "member", "ident", "word", "sent"] ["model", "row"] (defScope s_law_go) := ⟨rfl, rfl, rfl, by decide +kernel, rfl, by decide +kernel, by decide +kernel⟩
abbrev s_law_may : Stmt := topS 34
theorem sc_law_may : FnScope ["model", "member", "place", "rows", "sender", "number", "row"] ["model", "member"] (defScope s_law_may) := ⟨rfl, rfl, rfl, by decide +kernel, rfl, by decide +kernel, by decide +kernel⟩
abbrev s_law_word : Stmt := topS 35
theorem sc_law_word : FnScope ["pool", "word", "k"] ["pool"] (defScope s_law_word) := ⟨rfl, rfl, rfl, by decide +kernel, rfl, by decide +kernel, by decide +kernel⟩
abbrev s_law_new_row : Stmt := topS 36
theorem sc_law_new_row : FnScope ["model", "members", "wild", "pool", "way", "odd", "member", "pick", "ident", "rows", "row"] ["model", "members", "wild", "pool"] (defScope s_law_new_row) := ⟨rfl, rfl, rfl, by decide +kernel, rfl, by decide +kernel, by decide +kernel⟩
abbrev s_law_rows : Stmt := topS 37
theorem sc_law_rows : FnScope ["script", "start", "wild", "members", "model", "rows", "cell", "row", "good"] ["script", "start", "wild"] (defScope s_law_rows) := ⟨rfl, rfl, rfl, by decide +kernel, rfl, by decide +kernel, by decide +kernel⟩
abbrev s_law_exchanged : Stmt := topS 38
theorem sc_law_exchanged : FnScope ["rows", "pool", "later", "k", "at"] ["rows", "pool"] (defScope s_law_exchanged) := ⟨rfl, rfl, rfl, by decide +kernel, rfl, by decide +kernel, by decide +kernel⟩
abbrev s_law_changed : Stmt := topS 39
theorem sc_law_changed : FnScope ["rows", "members", "pool", "way", "at", "row"] ["rows", "members", "pool"] (defScope s_law_changed) := ⟨rfl, rfl, rfl, by decide +kernel, rfl, by decide +kernel, by decide +kernel⟩
abbrev s_law_own : Stmt := topS 40
theorem sc_law_own : FnScope ["rows", "member", "row"] ["rows", "member"] (defScope s_law_own) := ⟨rfl, rfl, rfl, by decide +kernel, rfl, by decide +kernel, by decide +kernel⟩
abbrev s_law_right : Stmt := topS 41
theorem sc_law_right : FnScope ["members", "rows", "others", "due", "told", "k"] ["members", "rows", "others"] (defScope s_law_right) := ⟨rfl, rfl, rfl, by decide +kernel, rfl, by decide +kernel, by decide +kernel⟩
abbrev s_law_refused : Stmt := topS 42
theorem sc_law_refused : FnScope ["members", "rows", "others", "e"] ["members", "rows", "others"] (defScope s_law_refused) := ⟨rfl, rfl, rfl, by decide +kernel, rfl, by decide +kernel, by decide +kernel⟩
abbrev s_law : Stmt := topS 43
theorem sc_law : FnScope ["script", "members", "rows", "pool", "others", "kept", "k", "bad", "worse", "found"] ["script"] (defScope s_law) := ⟨rfl, rfl, rfl, by decide +kernel, rfl, by decide +kernel, by decide +kernel⟩
structure Tx (K : PySem.W.Frag) (mg : Str → Option Value) where
  f_is_whole : Addr
  d_is_whole : FuncData
  F_is_whole : FunD K "is_whole" "is_whole" (defArgs s_is_whole) (defBody s_is_whole) (defScope s_is_whole) [.non] [] f_is_whole d_is_whole
  m_is_whole : mg "is_whole" = some (.ref f_is_whole)
  k_is_whole : PySem.W.keepIn K (.ref f_is_whole) = true
  ds_is_whole_2 : List Value
  v_is_whole_2 : Vals [.non] ds_is_whole_2
  b_is_whole_2 : Binds K d_is_whole ["thing", "low", "high"] ds_is_whole_2
  b_is_whole : Binds K d_is_whole ["thing", "low", "high"] []
  f_is_text_of : Addr
  d_is_text_of : FuncData
  F_is_text_of : Fun K "is_text_of" "is_text_of" s_is_text_of f_is_text_of d_is_text_of
  m_is_text_of : mg "is_text_of" = some (.ref f_is_text_of)
  k_is_text_of : PySem.W.keepIn K (.ref f_is_text_of) = true
  b_is_text_of : Binds K d_is_text_of ["thing", "first", "last", "most"] []
  f_is_word : Addr
  d_is_word : FuncData
  F_is_word : Fun K "is_word" "is_word" s_is_word f_is_word d_is_word
  m_is_word : mg "is_word" = some (.ref f_is_word)
  k_is_word : PySem.W.keepIn K (.ref f_is_word) = true
  b_is_word : Binds K d_is_word ["thing"] []
  f_is_list : Addr
  d_is_list : FuncData
  F_is_list : Fun K "is_list" "is_list" s_is_list f_is_list d_is_list
  m_is_list : mg "is_list" = some (.ref f_is_list)
  k_is_list : PySem.W.keepIn K (.ref f_is_list) = true
  b_is_list : Binds K d_is_list ["thing"] []
  f_is_member : Addr
  d_is_member : FuncData
  F_is_member : Fun K "is_member" "is_member" s_is_member f_is_member d_is_member
  m_is_member : mg "is_member" = some (.ref f_is_member)
  k_is_member : PySem.W.keepIn K (.ref f_is_member) = true
  b_is_member : Binds K d_is_member ["thing", "members"] []
  f_is_ident : Addr
  d_is_ident : FuncData
  F_is_ident : FunD K "is_ident" "is_ident" (defArgs s_is_ident) (defBody s_is_ident) (defScope s_is_ident) [.non] [] f_is_ident d_is_ident
  m_is_ident : mg "is_ident" = some (.ref f_is_ident)
  k_is_ident : PySem.W.keepIn K (.ref f_is_ident) = true
  ds_is_ident_2 : List Value
  v_is_ident_2 : Vals [.non] ds_is_ident_2
  b_is_ident_2 : Binds K d_is_ident ["thing", "members", "high"] ds_is_ident_2
  b_is_ident : Binds K d_is_ident ["thing", "members", "high"] []
  f_check_members : Addr
  d_check_members : FuncData
  F_check_members : Fun K "check_members" "check_members" s_check_members f_check_members d_check_members
  m_check_members : mg "check_members" = some (.ref f_check_members)
  k_check_members : PySem.W.keepIn K (.ref f_check_members) = true
  b_check_members : Binds K d_check_members ["members"] []
  f_is_row : Addr
  d_is_row : FuncData
  F_is_row : Fun K "is_row" "is_row" s_is_row f_is_row d_is_row
  m_is_row : mg "is_row" = some (.ref f_is_row)
  k_is_row : PySem.W.keepIn K (.ref f_is_row) = true
  b_is_row : Binds K d_is_row ["thing", "members"] []
  f_own_rows : Addr
  d_own_rows : FuncData
  F_own_rows : Fun K "own_rows" "own_rows" s_own_rows f_own_rows d_own_rows
  m_own_rows : mg "own_rows" = some (.ref f_own_rows)
  k_own_rows : PySem.W.keepIn K (.ref f_own_rows) = true
  b_own_rows : Binds K d_own_rows ["rows", "member"] []
  f_is_history : Addr
  d_is_history : FuncData
  F_is_history : Fun K "is_history" "is_history" s_is_history f_is_history d_is_history
  m_is_history : mg "is_history" = some (.ref f_is_history)
  k_is_history : PySem.W.keepIn K (.ref f_is_history) = true
  b_is_history : Binds K d_is_history ["members", "rows"] []
  f_check_history : Addr
  d_check_history : FuncData
  F_check_history : Fun K "check_history" "check_history" s_check_history f_check_history d_check_history
  m_check_history : mg "check_history" = some (.ref f_check_history)
  k_check_history : PySem.W.keepIn K (.ref f_check_history) = true
  b_check_history : Binds K d_check_history ["members", "rows"] []
  f_alike_to : Addr
  d_alike_to : FuncData
  F_alike_to : Fun K "alike_to" "alike_to" s_alike_to f_alike_to d_alike_to
  m_alike_to : mg "alike_to" = some (.ref f_alike_to)
  k_alike_to : PySem.W.keepIn K (.ref f_alike_to) = true
  b_alike_to : Binds K d_alike_to ["members", "rows", "others"] []
  f_law_cell_at : Addr
  d_law_cell_at : FuncData
  F_law_cell_at : Fun K "_law_cell_at" "_law_cell_at" s_law_cell_at f_law_cell_at d_law_cell_at
  m_law_cell_at : mg "_law_cell_at" = some (.ref f_law_cell_at)
  k_law_cell_at : PySem.W.keepIn K (.ref f_law_cell_at) = true
  b_law_cell_at : Binds K d_law_cell_at ["script", "k"] []
  f_law_take : Addr
  d_law_take : FuncData
  F_law_take : Fun K "_law_take" "_law_take" s_law_take f_law_take d_law_take
  m_law_take : mg "_law_take" = some (.ref f_law_take)
  k_law_take : PySem.W.keepIn K (.ref f_law_take) = true
  b_law_take : Binds K d_law_take ["pool", "size"] []
  f_law_pool : Addr
  d_law_pool : FuncData
  F_law_pool : Fun K "_law_pool" "_law_pool" s_law_pool f_law_pool d_law_pool
  m_law_pool : mg "_law_pool" = some (.ref f_law_pool)
  k_law_pool : PySem.W.keepIn K (.ref f_law_pool) = true
  b_law_pool : Binds K d_law_pool ["cell"] []
  f_law_model : Addr
  d_law_model : FuncData
  F_law_model : Fun K "_law_model" "_law_model" s_law_model f_law_model d_law_model
  m_law_model : mg "_law_model" = some (.ref f_law_model)
  k_law_model : PySem.W.keepIn K (.ref f_law_model) = true
  b_law_model : Binds K d_law_model ["members"] []
  f_law_otherwise : Addr
  d_law_otherwise : FuncData
  F_law_otherwise : Fun K "_law_otherwise" "_law_otherwise" s_law_otherwise f_law_otherwise d_law_otherwise
  m_law_otherwise : mg "_law_otherwise" = some (.ref f_law_otherwise)
  k_law_otherwise : PySem.W.keepIn K (.ref f_law_otherwise) = true
  b_law_otherwise : Binds K d_law_otherwise ["model", "member", "place", "ident"] []
  f_law_has : Addr
  d_law_has : FuncData
  F_law_has : Fun K "_law_has" "_law_has" s_law_has f_law_has d_law_has
  m_law_has : mg "_law_has" = some (.ref f_law_has)
  k_law_has : PySem.W.keepIn K (.ref f_law_has) = true
  b_law_has : Binds K d_law_has ["model", "rows", "ident"] []
  f_law_why_got : Addr
  d_law_why_got : FuncData
  F_law_why_got : Fun K "_law_why_got" "_law_why_got" s_law_why_got f_law_why_got d_law_why_got
  m_law_why_got : mg "_law_why_got" = some (.ref f_law_why_got)
  k_law_why_got : PySem.W.keepIn K (.ref f_law_why_got) = true
  b_law_why_got : Binds K d_law_why_got ["model", "member", "ident"] []
  f_law_why : Addr
  d_law_why : FuncData
  F_law_why : Fun K "_law_why" "_law_why" s_law_why f_law_why d_law_why
  m_law_why : mg "_law_why" = some (.ref f_law_why)
  k_law_why : PySem.W.keepIn K (.ref f_law_why) = true
  b_law_why : Binds K d_law_why ["model", "row"] []
  f_law_go : Addr
  d_law_go : FuncData
  F_law_go : Fun K "_law_go" "_law_go" s_law_go f_law_go d_law_go
  m_law_go : mg "_law_go" = some (.ref f_law_go)
  k_law_go : PySem.W.keepIn K (.ref f_law_go) = true
  b_law_go : Binds K d_law_go ["model", "row"] []
  f_law_may : Addr
  d_law_may : FuncData
  F_law_may : Fun K "_law_may" "_law_may" s_law_may f_law_may d_law_may
  m_law_may : mg "_law_may" = some (.ref f_law_may)
  k_law_may : PySem.W.keepIn K (.ref f_law_may) = true
  b_law_may : Binds K d_law_may ["model", "member"] []
  f_law_word : Addr
  d_law_word : FuncData
  F_law_word : Fun K "_law_word" "_law_word" s_law_word f_law_word d_law_word
  m_law_word : mg "_law_word" = some (.ref f_law_word)
  k_law_word : PySem.W.keepIn K (.ref f_law_word) = true
  b_law_word : Binds K d_law_word ["pool"] []
  f_law_new_row : Addr
  d_law_new_row : FuncData
  F_law_new_row : Fun K "_law_new_row" "_law_new_row" s_law_new_row f_law_new_row d_law_new_row
  m_law_new_row : mg "_law_new_row" = some (.ref f_law_new_row)
  k_law_new_row : PySem.W.keepIn K (.ref f_law_new_row) = true
  b_law_new_row : Binds K d_law_new_row ["model", "members", "wild", "pool"] []
  f_law_rows : Addr
  d_law_rows : FuncData
  F_law_rows : Fun K "_law_rows" "_law_rows" s_law_rows f_law_rows d_law_rows
  m_law_rows : mg "_law_rows" = some (.ref f_law_rows)
  k_law_rows : PySem.W.keepIn K (.ref f_law_rows) = true
  b_law_rows : Binds K d_law_rows ["script", "start", "wild"] []
  f_law_exchanged : Addr
  d_law_exchanged : FuncData
  F_law_exchanged : Fun K "_law_exchanged" "_law_exchanged" s_law_exchanged f_law_exchanged d_law_exchanged
  m_law_exchanged : mg "_law_exchanged" = some (.ref f_law_exchanged)
  k_law_exchanged : PySem.W.keepIn K (.ref f_law_exchanged) = true
  b_law_exchanged : Binds K d_law_exchanged ["rows", "pool"] []
  f_law_changed : Addr
  d_law_changed : FuncData
  F_law_changed : Fun K "_law_changed" "_law_changed" s_law_changed f_law_changed d_law_changed
  m_law_changed : mg "_law_changed" = some (.ref f_law_changed)
  k_law_changed : PySem.W.keepIn K (.ref f_law_changed) = true
  b_law_changed : Binds K d_law_changed ["rows", "members", "pool"] []
  f_law_own : Addr
  d_law_own : FuncData
  F_law_own : Fun K "_law_own" "_law_own" s_law_own f_law_own d_law_own
  m_law_own : mg "_law_own" = some (.ref f_law_own)
  k_law_own : PySem.W.keepIn K (.ref f_law_own) = true
  b_law_own : Binds K d_law_own ["rows", "member"] []
  f_law_right : Addr
  d_law_right : FuncData
  F_law_right : Fun K "_law_right" "_law_right" s_law_right f_law_right d_law_right
  m_law_right : mg "_law_right" = some (.ref f_law_right)
  k_law_right : PySem.W.keepIn K (.ref f_law_right) = true
  b_law_right : Binds K d_law_right ["members", "rows", "others"] []
  f_law_refused : Addr
  d_law_refused : FuncData
  F_law_refused : Fun K "_law_refused" "_law_refused" s_law_refused f_law_refused d_law_refused
  m_law_refused : mg "_law_refused" = some (.ref f_law_refused)
  k_law_refused : PySem.W.keepIn K (.ref f_law_refused) = true
  b_law_refused : Binds K d_law_refused ["members", "rows", "others"] []
  f_law : Addr
  d_law : FuncData
  F_law : Fun K "law" "law" s_law f_law d_law
  m_law : mg "law" = some (.ref f_law)
  k_law : PySem.W.keepIn K (.ref f_law) = true
  b_law : Binds K d_law ["script"] []
  C_NoHistory : Addr
  g_NoHistory : mg "NoHistory" = some (.ref C_NoHistory)
  C_NoNumber : Addr
  g_NoNumber : mg "NoNumber" = some (.ref C_NoNumber)
  exC_NoHistory : PySem.W.subIn K (.ref C_NoHistory) (.type "BaseException") = some true
  hdx_NoHistory : PySem.W.hasDictIn K C_NoHistory = true
  ty_NoHistory : PySem.W.typeIn K (.ref C_NoHistory) = some (.type "type")
  ss_NoHistory : PySem.W.subIn K (.ref C_NoHistory) (.ref C_NoHistory) = some true
  exC_NoNumber : PySem.W.subIn K (.ref C_NoNumber) (.type "BaseException") = some true
  hdx_NoNumber : PySem.W.hasDictIn K C_NoNumber = true
  ty_NoNumber : PySem.W.typeIn K (.ref C_NoNumber) = some (.type "type")
  ss_NoNumber : PySem.W.subIn K (.ref C_NoNumber) (.ref C_NoNumber) = some true
  fI_NoHistory : Addr
  ox_NoHistory : OexS K C_NoHistory fI_NoHistory "ValueError" "ValueError.__new__" "ValueError.__init__" veT "found"
  xf_NoHistory : XfC K C_NoHistory
  xc_NoHistory : ExcC K C_NoHistory
  nf_NoHistory : PySem.W.findIn K (.ref C_NoHistory) "found" = some none
  sb_NoHistory_NoHistory : PySem.W.subIn K (.ref C_NoHistory) (.ref C_NoHistory) = some true
  fI_NoNumber : Addr
  ox_NoNumber : OexS K C_NoNumber fI_NoNumber "ValueError" "ValueError.__new__" "ValueError.__init__" veT "found"
  xf_NoNumber : XfC K C_NoNumber
  xc_NoNumber : ExcC K C_NoNumber
  nf_NoNumber : PySem.W.findIn K (.ref C_NoNumber) "found" = some none
  sb_NoNumber_NoHistory : PySem.W.subIn K (.ref C_NoNumber) (.ref C_NoHistory) = some false
  hn : PySem.W.specialIn K (.builtin "object.__class__") "__get__" = some (some (.builtin "getset_descriptor.__get__"))
  htk : PySem.W.takesIn K (.builtin "object.__class__") = some true
  z_all : mg "all" = none
  z_bool : mg "bool" = none
  z_int : mg "int" = none
  z_isinstance : mg "isinstance" = none
  z_len : mg "len" = none
  z_list : mg "list" = none
  z_max : mg "max" = none
  z_range : mg "range" = none
  z_str : mg "str" = none
  z_super : mg "super" = none
  z_tuple : mg "tuple" = none
  t_LEAST_MEMBERS : Tok
  g_LEAST_MEMBERS : mg "LEAST_MEMBERS" = some (.int 2 t_LEAST_MEMBERS)
  t_MOST_LETTERS : Tok
  g_MOST_LETTERS : mg "MOST_LETTERS" = some (.int 30 t_MOST_LETTERS)
  t_MOST_MEMBERS : Tok
  g_MOST_MEMBERS : mg "MOST_MEMBERS" = some (.int 5 t_MOST_MEMBERS)
  t_MOST_ROWS : Tok
  g_MOST_ROWS : mg "MOST_ROWS" = some (.int 400 t_MOST_ROWS)
  t_MOST_SIGNS : Tok
  g_MOST_SIGNS : mg "MOST_SIGNS" = some (.int 8 t_MOST_SIGNS)
def textB (s : Str) (lo hi : Nat) (m : Int) : Bool := decide (1 ≤ (s.length : Int)) && decide ((s.length : Int) ≤ m) && s.cps.toList.all fun c => decide (lo ≤ c) && decide (c ≤ hi)
/-- a row of a history -/
inductive RowD where
  | sent (m : Int) (w : Str)
  | got (m s n : Int)
  | told (m p s n : Int)
  deriving DecidableEq
def RowD.vs : RowD → List V
  | .sent m w => [.str "sent", .int m, .str w]
  | .got m s n => [.str "got", .int m, .int s, .int n]
  | .told m p s n => [.str "told", .int m, .int p, .int s, .int n]
def RowD.dat : RowD → PyData
  | .sent m w => .tuple [.str "sent", .int m, .str w]
  | .got m s n => .tuple [.str "got", .int m, .int s, .int n]
  | .told m p s n => .tuple [.str "told", .int m, .int p, .int s, .int n]
def RowD.mem : RowD → Int
  | .sent m _ => m
  | .got m _ _ => m
  | .told m _ _ _ => m
def RowD.isSent : RowD → Bool
  | .sent _ _ => true
  | _ => false
def RowD.setM (x : Int) : RowD → RowD
  | .sent _ w => .sent x w
  | .got _ s n => .got x s n
  | .told _ p s n => .told x p s n
def RowD.Good (M : Int) : RowD → Prop
  | .sent m w => 0 ≤ m ∧ m ≤ M - 1 ∧ w.length ≤ 8 ∧ textB w 97 122 8 = true
  | .got m s n => 0 ≤ m ∧ m ≤ M - 1 ∧ 0 ≤ s ∧ s ≤ M - 1 ∧ 1 ≤ n
  | .told m p s n => 0 ≤ m ∧ m ≤ M - 1 ∧ 1 ≤ p ∧ 0 ≤ s ∧ s ≤ M - 1 ∧ 1 ≤ n
theorem RowD.Good.mem {M : Int} {ρ : RowD} (h : ρ.Good M) : 0 ≤ ρ.mem ∧ ρ.mem ≤ M - 1 := by
  cases ρ <;> exact ⟨h.1, h.2.1⟩
theorem RowD.Good.setM {M x : Int} {ρ : RowD} (h : ρ.Good M) (h0 : 0 ≤ x) (h1 : x ≤ M - 1) : (ρ.setM x).Good M := by
  cases ρ <;> exact ⟨h0, h1, h.2.2⟩
def RowD.ok : RowD → Bool
  | .sent _ w => PyData.strOk w
  | _ => true
def RowAt (H : Hp) (v : V) (ρ : RowD) : Prop := ρ.ok = true ∧ ∃ t, v = .ref t ∧ H t = some (.tup ρ.vs)
theorem strOk_of {w : Str} {m : Int} (h : textB w 97 122 m = true) : PyData.strOk w = true := by
  unfold textB at h
  simp only [Bool.and_eq_true, decide_eq_true_eq, List.all_eq_true] at h
  show (w.cps.all fun x => decide (x < 1114112)) = true
  rw [← Array.all_toList, List.all_eq_true]
  intro c hc
  have := (h.2 c hc).2
  exact decide_eq_true (by omega)
theorem RowD.Good.ok {M : Int} {ρ : RowD} (h : ρ.Good M) : ρ.ok = true := by
  cases ρ with
  | sent m w => exact strOk_of h.2.2.2
  | got m s n => rfl
  | told m p s n => rfl
theorem RowAt.of {M : Int} {H : Hp} {t : Addr} {ρ : RowD} (g : ρ.Good M) (h : H t = some (.tup ρ.vs)) : RowAt H (.ref t) ρ := ⟨g.ok, t, rfl, h⟩
theorem RowD.setM_ok {x : Int} {ρ : RowD} : (ρ.setM x).ok = ρ.ok := by cases ρ <;> rfl
theorem RowAt.same {H H' : Hp} {v : V} {ρ : RowD} (h : RowAt H v ρ) (s : Same H H') : RowAt H' v ρ := by
  obtain ⟨o, t, e, h⟩ := h
  exact ⟨o, t, e, s _ _ h⟩
theorem RowAt.all {H H' : Hp} {xs : List V} {rs : List RowD} (h : All2 (RowAt H) xs rs) (s : Same H H') : All2 (RowAt H') xs rs := h.mono fun _ _ z => z.same s
def own (rs : List RowD) (k : Int) : List RowD := rs.filter fun ρ => decide (ρ.mem = k)
def nSent (rs : List RowD) : Nat := (rs.filter RowD.isSent).length
structure GoodH (M : Int) (rs : List RowD) : Prop where
  all : ∀ ρ ∈ rs, ρ.Good M
  len : rs.length ≤ 400
  snt : nSent rs ≤ 30
/-- a list or a tuple -/
def Sq2 (K : PySem.W.Frag) (H : Hp) (a : Addr) (xs : List V) : Prop := H a = some (.lst xs) ∨ H a = some (.tup xs)
theorem Sq2.up {K : PySem.W.Frag} {H H' : Hp} (s : Same H H') {a : Addr} {xs : List V} (h : Sq2 K H a xs) : Sq2 K H' a xs := h.imp (s _ _) (s _ _)
theorem RowD.dp {K : PySem.W.Frag} {H : Hp} {v : V} {ρ : RowD} (h : RowAt H v ρ) : Dp K H v ρ.dat := by
  obtain ⟨_, t, rfl, h⟩ := h
  cases ρ with
  | sent m w => exact .tup (SqT.of h) (.cons (.str _) (.cons (.int _) (.cons (.str _) .nil)))
  | got m s n => exact .tup (SqT.of h) (.cons (.str _) (.cons (.int _) (.cons (.int _) (.cons (.int _) .nil))))
  | told m p s n => exact .tup (SqT.of h) (.cons (.str _) (.cons (.int _) (.cons (.int _) (.cons (.int _) (.cons (.int _) .nil)))))
theorem RowD.dps {K : PySem.W.Frag} {H : Hp} {xs : List V} {rs : List RowD} (h : All2 (RowAt H) xs rs) : DpAll K H xs (rs.map RowD.dat) := by
  induction h with
  | nil => exact .nil
  | cons h t ih => exact .cons (RowD.dp h) ih
theorem RowD.eqv {ρ τ : RowD} : PyData.eqv ρ.dat τ.dat = decide (ρ = τ) := by
  have e1 : (Str.ofString "sent" == Str.ofString "got") = false := by decide +kernel
  have e2 : (Str.ofString "sent" == Str.ofString "told") = false := by decide +kernel
  have e3 : (Str.ofString "got" == Str.ofString "sent") = false := by decide +kernel
  have e4 : (Str.ofString "got" == Str.ofString "told") = false := by decide +kernel
  have e5 : (Str.ofString "told" == Str.ofString "sent") = false := by decide +kernel
  have e6 : (Str.ofString "told" == Str.ofString "got") = false := by decide +kernel
  cases ρ <;> cases τ <;> simp [RowD.dat, PyData.eqv, PyData.eqvAll, e1, e2, e3, e4, e5, e6] <;> rfl
theorem RowD.lay {ρ : RowD} (h : ρ.ok = true) : PyData.canLay0 ρ.dat = true := by
  cases ρ with
  | sent m w =>
    have h : PyData.strOk w = true := h
    have e : PyData.strOk (Str.ofString "sent") = true := by decide +kernel
    simp [RowD.dat, PyData.canLay0, PyData.canLayAll0, h, e]
  | got m s n =>
    have e : PyData.strOk (Str.ofString "got") = true := by decide +kernel
    simp [RowD.dat, PyData.canLay0, PyData.canLayAll0, e]
  | told m p s n =>
    have e : PyData.strOk (Str.ofString "told") = true := by decide +kernel
    simp [RowD.dat, PyData.canLay0, PyData.canLayAll0, e]
theorem RowD.dep {ρ : RowD} : PyData.depth ρ.dat ≤ 2 := by cases ρ <;> exact Nat.le_of_ble_eq_true rfl
theorem oks {H : Hp} {xs : List V} {rs : List RowD} (h : All2 (RowAt H) xs rs) : ∀ ρ ∈ rs, ρ.ok = true := by
  induction h with
  | nil => intro ρ h; cases h
  | cons a _ ih =>
    intro ρ hρ
    rcases List.mem_cons.mp hρ with rfl | hρ
    · exact a.1
    · exact ih ρ hρ
theorem lay_rows {rs : List RowD} (h : ∀ ρ ∈ rs, ρ.ok = true) : PyData.canLayAll0 (rs.map RowD.dat) = true := by
  induction rs with
  | nil => rfl
  | cons r rs ih =>
    show (PyData.canLay0 r.dat && PyData.canLayAll0 (rs.map RowD.dat)) = true
    rw [RowD.lay (h r (List.mem_cons_self ..)), ih (fun ρ hρ => h ρ (List.mem_cons_of_mem _ hρ))]
    rfl
theorem depth_rows {rs : List RowD} : PyData.depthAll (rs.map RowD.dat) ≤ 2 := by
  induction rs with
  | nil => exact Nat.zero_le _
  | cons r rs ih =>
    show max (PyData.depth r.dat) (PyData.depthAll (rs.map RowD.dat)) ≤ 2
    exact Nat.max_le.mpr ⟨RowD.dep, ih⟩
theorem sh_rows {rs : List RowD} (h : ∀ ρ ∈ rs, ρ.ok = true) : SeqAt.shaped (.list (rs.map RowD.dat)) = true := by
  show (PyData.canLayAll0 (rs.map RowD.dat) && decide (PyData.depthAll (rs.map RowD.dat) + 1 ≤ 64)) = true
  rw [lay_rows h, Bool.true_and, decide_eq_true_eq]
  have := depth_rows (rs := rs)
  omega
theorem eqv_rows : ∀ {rs os : List RowD}, PyData.eqvAll (rs.map RowD.dat) (os.map RowD.dat) = decide (rs = os)
  | [], [] => rfl
  | [], _ :: _ => by simp [PyData.eqvAll]
  | _ :: _, [] => by simp [PyData.eqvAll]
  | r :: rs, o :: os => by
    simp only [List.map_cons, PyData.eqvAll, RowD.eqv, eqv_rows (rs := rs) (os := os), List.cons.injEq, Bool.decide_and]
theorem q_eqRows {K : PySem.W.Frag} {H : Hp} {Q : VK} {a b : Addr} {xs ys : List V} {rs os : List RowD} (h1 : SqL K H a xs) (h2 : All2 (RowAt H) xs rs) (h3 : SqL K H b ys) (h4 : All2 (RowAt H) ys os) (q : Q (.bl (decide (rs = os))) H) : rEqD K (.ref a) (.ref b) H Q :=
  q_eqD (.lst h1 (RowD.dps h2)) (.lst h3 (RowD.dps h4)) (sh_rows (oks h2)) (sh_rows (oks h4)) (R_of q (by rw [show PyData.eqv (.list (rs.map RowD.dat)) (.list (os.map RowD.dat)) = decide (rs = os) from eqv_rows]))
theorem q_neRows {K : PySem.W.Frag} {H : Hp} {Q : VK} {a b : Addr} {xs ys : List V} {rs os : List RowD} (h1 : SqL K H a xs) (h2 : All2 (RowAt H) xs rs) (h3 : SqL K H b ys) (h4 : All2 (RowAt H) ys os) (q : Q (.bl (!decide (rs = os))) H) : rNeD K (.ref a) (.ref b) H Q :=
  q_neD (.lst h1 (RowD.dps h2)) (.lst h3 (RowD.dps h4)) (sh_rows (oks h2)) (sh_rows (oks h4)) (R_of q (by rw [show PyData.eqv (.list (rs.map RowD.dat)) (.list (os.map RowD.dat)) = decide (rs = os) from eqv_rows]))
/-- the members to whom both are alike -/
def alk (M : Int) (rs os : List RowD) : List Int := ((List.range M.toNat).filter fun k => decide (own rs (k : Nat) = own os (k : Nat))).map fun k => ((k : Nat) : Int)
theorem own_sub {rs : List RowD} {k : Int} : ∀ ρ ∈ own rs k, ρ ∈ rs := fun ρ h => (List.mem_filter.mp h).1
/-! ### the law's model -/
def cntM (ks : List (Int × Int)) (m : Int) : Nat := (ks.filter fun k => decide (k.1 = m)).length
structure Mdl where
  md : Addr
  c : Addr
  wd : Addr
  g : Addr
  tl : Addr
  ga : List Addr
  ta : List Addr
  cl : List Addr
  ks : List (Int × Int)
def Mdl.ls (μ : Mdl) : List Addr := [μ.g, μ.tl] ++ (μ.ga ++ (μ.ta ++ μ.cl))
structure MdlAt (M : Int) (B : Nat) (H : Hp) (μ : Mdl) : Prop where
  md : H μ.md = some (.dK [(.inr "causes", .ref μ.c), (.inr "words", .ref μ.wd), (.inr "got", .ref μ.g), (.inr "told", .ref μ.tl)])
  c : H μ.c = some (.dT (zk μ.ks μ.cl))
  wd : ∃ ws, H μ.wd = some (.dT ws) ∧ ws.length ≤ B
  cw : μ.c ≠ μ.wd
  g : H μ.g = some (.lst (μ.ga.map V.ref))
  tl : H μ.tl = some (.lst (μ.ta.map V.ref))
  gl : (μ.ga.length : Int) = M
  tll : (μ.ta.length : Int) = M
  kl : μ.ks.length = μ.cl.length
  kb : μ.ks.length ≤ B
  ga : ∀ a ∈ μ.ga, ∃ xs ids, H a = some (.lst xs) ∧ All2 (PairAt H) xs ids ∧ xs.length ≤ B ∧ ∀ i ∈ ids, i ∈ μ.ks
  ta : ∀ a ∈ μ.ta, ∃ xs ids, H a = some (.lst xs) ∧ All2 (PairAt H) xs ids ∧ xs.length ≤ B
  cl : ∀ a ∈ μ.cl, ∃ xs ids, H a = some (.lst xs) ∧ All2 (PairAt H) xs ids ∧ xs.length ≤ B
  nd : μ.ls.Nodup
  kg : ∀ k ∈ μ.ks, 0 ≤ k.1 ∧ k.1 ≤ M - 1 ∧ 1 ≤ k.2 ∧ k.2 ≤ cntM μ.ks k.1
def Keep (L : List Addr) (H H' : Hp) : Prop := ∀ b o, b ∉ L → H b = some o → H' b = some o
theorem Keep.of {L : List Addr} {H H' : Hp} (s : Same H H') : Keep L H H' := fun b o _ e => s b o e
theorem Keep.no {L : List Addr} {H H' : Hp} (f : Keep L H H') (hL : ∀ b ∈ L, ∃ xs, H b = some (.lst xs)) {b : Addr} {o : HO} (e : H b = some o) (n : ∀ xs, o ≠ .lst xs) : H' b = some o :=
  f b o (fun hb => by
    obtain ⟨xs, hx⟩ := hL b hb
    rw [hx] at e
    exact n xs (Option.some.inj e).symm) e
theorem Keep.pairs {L : List Addr} {H H' : Hp} (f : Keep L H H') (hL : ∀ b ∈ L, ∃ xs, H b = some (.lst xs)) {xs : List V} {ids : List (Int × Int)} (h : All2 (PairAt H) xs ids) : All2 (PairAt H') xs ids := h.mono fun v c z => by
  obtain ⟨i, e1, e2⟩ := z
  exact ⟨i, e1, f.no hL e2 (fun xs => by simp)⟩
theorem Keep.rows {L : List Addr} {H H' : Hp} (f : Keep L H H') (hL : ∀ b ∈ L, ∃ xs, H b = some (.lst xs)) {xs : List V} {rs : List RowD} (h : All2 (RowAt H) xs rs) : All2 (RowAt H') xs rs := h.mono fun v c z => by
  obtain ⟨o, i, e1, e2⟩ := z
  exact ⟨o, i, e1, f.no hL e2 (fun xs => by simp)⟩
theorem Mdl.mga {μ : Mdl} {a : Addr} (h : a ∈ μ.ga) : a ∈ μ.ls := List.mem_append.mpr (.inr (List.mem_append.mpr (.inl h)))
theorem Mdl.mta {μ : Mdl} {a : Addr} (h : a ∈ μ.ta) : a ∈ μ.ls := List.mem_append.mpr (.inr (List.mem_append.mpr (.inr (List.mem_append.mpr (.inl h)))))
theorem Mdl.mcl {μ : Mdl} {a : Addr} (h : a ∈ μ.cl) : a ∈ μ.ls := List.mem_append.mpr (.inr (List.mem_append.mpr (.inr (List.mem_append.mpr (.inr h)))))
theorem MdlAt.keep {M : Int} {B : Nat} {L : List Addr} {H H' : Hp} {μ : Mdl} (h : MdlAt M B H μ) (f : Keep L H H') (hL : ∀ b ∈ L, ∃ xs, H b = some (.lst xs)) (n : ∀ b ∈ μ.ls, b ∉ L) : MdlAt M B H' μ where
  md := f.no hL h.md (fun xs => by simp)
  c := f.no hL h.c (fun xs => by simp)
  wd := h.wd.imp fun ws e => ⟨f.no hL e.1 (fun xs => by simp), e.2⟩
  cw := h.cw
  g := f _ _ (n _ (by simp [Mdl.ls])) h.g
  tl := f _ _ (n _ (by simp [Mdl.ls])) h.tl
  gl := h.gl
  tll := h.tll
  kl := h.kl
  kb := h.kb
  ga := fun a ha => by
    obtain ⟨xs, ids, e1, e2, e3⟩ := h.ga a ha
    exact ⟨xs, ids, f _ _ (n _ (Mdl.mga ha)) e1, f.pairs hL e2, e3⟩
  ta := fun a ha => by
    obtain ⟨xs, ids, e1, e2, e3⟩ := h.ta a ha
    exact ⟨xs, ids, f _ _ (n _ (Mdl.mta ha)) e1, f.pairs hL e2, e3⟩
  cl := fun a ha => by
    obtain ⟨xs, ids, e1, e2, e3⟩ := h.cl a ha
    exact ⟨xs, ids, f _ _ (n _ (Mdl.mcl ha)) e1, f.pairs hL e2, e3⟩
  nd := h.nd
  kg := h.kg
theorem MdlAt.same {M : Int} {B : Nat} {H H' : Hp} {μ : Mdl} (h : MdlAt M B H μ) (s : Same H H') : MdlAt M B H' μ := h.keep (L := []) (Keep.of s) (fun b hb => nomatch hb) (fun b _ hb => nomatch hb)
theorem MdlAt.lists {M : Int} {B : Nat} {H : Hp} {μ : Mdl} (h : MdlAt M B H μ) : ∀ x ∈ μ.ls, ∃ xs, H x = some (.lst xs) := fun x hx => by
  rcases List.mem_append.mp hx with hx | hx
  · simp only [List.mem_cons, List.not_mem_nil, or_false] at hx
    rcases hx with rfl | rfl
    · exact ⟨_, h.g⟩
    · exact ⟨_, h.tl⟩
  · rcases List.mem_append.mp hx with hx | hx
    · obtain ⟨xs, _, e, _⟩ := h.ga x hx
      exact ⟨xs, e⟩
    · rcases List.mem_append.mp hx with hx | hx
      · obtain ⟨xs, _, e, _⟩ := h.ta x hx
        exact ⟨xs, e⟩
      · obtain ⟨xs, _, e, _⟩ := h.cl x hx
        exact ⟨xs, e⟩
theorem MdlAt.nq {M : Int} {B : Nat} {H : Hp} {μ : Mdl} {q : Addr} (h : MdlAt M B H μ) (hq : H q = none) : ∀ x ∈ μ.ls, x ∉ [q] := fun x hx hx2 => by
  obtain ⟨xs, e⟩ := h.lists x hx
  rw [List.mem_singleton.mp hx2, hq] at e
  cases e
def RowD.kind : RowD → Str
  | .sent _ _ => "sent"
  | .got _ _ _ => "got"
  | .told _ _ _ _ => "told"
theorem RowD.at0 {ρ : RowD} : atI ρ.vs 0 = some (.str ρ.kind) := by cases ρ <;> exact at0z
theorem RowD.at1 {ρ : RowD} : atI ρ.vs 1 = some (.int ρ.mem) := by cases ρ <;> exact at1z
theorem RowD.kind_sent {ρ : RowD} : decide (ρ.kind = Str.ofString "sent") = ρ.isSent := by
  cases ρ with
  | sent m w => exact (show decide (Str.ofString "sent" = Str.ofString "sent") = true by decide +kernel)
  | got m s n => exact (show decide (Str.ofString "got" = Str.ofString "sent") = false by decide +kernel)
  | told m p s n => exact (show decide (Str.ofString "told" = Str.ofString "sent") = false by decide +kernel)
theorem own_step {rs : List RowD} {i : Nat} {ρ : RowD} {k : Int} (h : rs[i]? = some ρ) : own (rs.take (i + 1)) k = own (rs.take i) k ++ (if ρ.mem = k then [ρ] else []) := by
  unfold own
  rw [List.take_add_one, h, List.filter_append]
  congr 1
  by_cases e : ρ.mem = k <;> simp [e]
theorem own_stepT {rs : List RowD} {i : Nat} {ρ : RowD} {k : Int} (h : rs[i]? = some ρ) (e : decide (ρ.mem = k) = true) : own (rs.take (i + 1)) k = own (rs.take i) k ++ [ρ] := by rw [own_step h, if_pos (of_decide_eq_true e)]
theorem own_stepF {rs : List RowD} {i : Nat} {ρ : RowD} {k : Int} (h : rs[i]? = some ρ) (e : decide (ρ.mem = k) = false) : own (rs.take (i + 1)) k = own (rs.take i) k := by rw [own_step h, if_neg (of_decide_eq_false e), List.append_nil]
theorem nSent_step {rs : List RowD} {i : Nat} {ρ : RowD} (h : rs[i]? = some ρ) : nSent (rs.take (i + 1)) = nSent (rs.take i) + (if ρ.isSent = true then 1 else 0) := by
  unfold nSent
  rw [List.take_add_one, h, List.filter_append, List.length_append]
  congr 1
  by_cases e : ρ.isSent = true <;> simp [e]
theorem tTestIx_m {K : PySem.W.Frag} {i j : Nat} {v : V} : ∀ (σ : L2.St) (H : Hp) (Q Q' : Bool → Hp → Prop), (∀ b H, Q b H → Q' b H) → tTest (tOp rEq (tOp (rIxT K) (tVar i) (tC v)) (tVar j)) σ H Q → tTest (tOp rEq (tOp (rIxT K) (tVar i) (tC v)) (tVar j)) σ H Q' := by
  rintro σ H Q Q' h ⟨v1, e1, p, xs, i, w, e2, e3, h2, ha, v2, e4, h3, kb, e5, q⟩
  exact ⟨v1, e1, p, xs, i, w, e2, e3, h2, ha, v2, e4, h3, kb, e5, h _ _ q⟩
theorem tTestIxC_m {K : PySem.W.Frag} {i : Nat} {u v : V} : ∀ (σ : L2.St) (H : Hp) (Q Q' : Bool → Hp → Prop), (∀ b H, Q b H → Q' b H) → tTest (tOp rEq (tOp (rIxT K) (tVar i) (tC v)) (tC u)) σ H Q → tTest (tOp rEq (tOp (rIxT K) (tVar i) (tC v)) (tC u)) σ H Q' := by
  rintro σ H Q Q' h ⟨v1, e1, p, xs, i, w, e2, e3, h2, ha, h3, kb, e5, q⟩
  exact ⟨v1, e1, p, xs, i, w, e2, e3, h2, ha, h3, kb, e5, h _ _ q⟩
theorem q_slTe {K : PySem.W.Frag} {H : Hp} {Q : VK} {p : Addr} {xs ys : List V} {lo hi : Option Int} (h : SqT K H p xs) (hn : ¬ (HT.sIx xs.length 0 lo = 0 ∧ HT.sIx xs.length xs.length hi = xs.length)) (e : cutV xs lo hi = ys) (q : ∀ d, H d = none → Q (.ref d) (upd H d (.tup ys))) : rSlT K (.ref p) lo hi H Q := q_slT h hn (by rw [e]; exact q)
/-- new empty lists, none of them D, none there at H1 -/
def Empt (D : Addr) (H1 : Hp) (i : Nat) (ys : List V) (H : Hp) : Prop := ∃ l : List Addr, ys = l.map V.ref ∧ l.length = i ∧ l.Nodup ∧ ∀ a ∈ l, H a = some (.lst []) ∧ H1 a = none ∧ a ≠ D
theorem Empt.zero {D : Addr} {H1 H : Hp} : Empt D H1 0 [] H := ⟨[], rfl, rfl, List.nodup_nil, fun a h => nomatch h⟩
theorem Empt.same {D : Addr} {H1 H H' : Hp} {i : Nat} {ys : List V} (h : Empt D H1 i ys H) (s : Same H H') : Empt D H1 i ys H' := by
  obtain ⟨l, h1, h2, h3, h4⟩ := h
  exact ⟨l, h1, h2, h3, fun a ha => ⟨s _ _ (h4 a ha).1, (h4 a ha).2⟩⟩
theorem Empt.put {D : Addr} {H1 H : Hp} {i : Nat} {ys : List V} {o : HO} (h : Empt D H1 i ys H) : Empt D H1 i ys (upd H D o) := by
  obtain ⟨l, h1, h2, h3, h4⟩ := h
  exact ⟨l, h1, h2, h3, fun a ha => ⟨(upd_ne (h4 a ha).2.2).trans (h4 a ha).1, (h4 a ha).2⟩⟩
theorem Empt.snoc {D : Addr} {H1 H H' : Hp} {i : Nat} {ys : List V} {z : Addr} (h : Empt D H1 i ys H) (s : Same H H') (f1 : H1 z = none) (f : H z = none) (e : H' z = some (.lst [])) (n : z ≠ D) : Empt D H1 (i + 1) (ys ++ [.ref z]) H' := by
  obtain ⟨l, rfl, rfl, h3, h4⟩ := h
  refine ⟨l ++ [z], by simp, by simp, List.nodup_append.mpr ⟨h3, by simp, fun x hx y hy e2 => ?_⟩, fun a ha => ?_⟩
  · rw [List.mem_singleton.mp hy] at e2
    have := (h4 x hx).1
    rw [e2, f] at this
    cases this
  · rcases List.mem_append.mp ha with ha | ha
    · exact ⟨s _ _ (h4 a ha).1, (h4 a ha).2⟩
    · rw [List.mem_singleton.mp ha]
      exact ⟨e, f1, n⟩
theorem cnt_step {ks : List (Int × Int)} {i : Nat} {c : Int × Int} {m : Int} (h : ks[i]? = some c) : cntM (ks.take (i + 1)) m = cntM (ks.take i) m + (if c.1 = m then 1 else 0) := by
  unfold cntM
  rw [List.take_add_one, h, List.filter_append, List.length_append]
  congr 1
  by_cases e : c.1 = m <;> simp [e]
theorem cnt_snoc {ks : List (Int × Int)} {c : Int × Int} {m : Int} : cntM (ks ++ [c]) m = cntM ks m + (if c.1 = m then 1 else 0) := by
  unfold cntM
  rw [List.filter_append, List.length_append]
  congr 1
  by_cases e : c.1 = m <;> simp [e]
theorem putK_len {κ : Type} [DecidableEq κ] {kvs : List (κ × V)} {k : κ} {v : V} : (putK kvs k v).length ≤ kvs.length + 1 := by
  unfold putK
  split
  · simp
  · simp
theorem lock_same {H B : Hp} {c : Addr} {u f : HO} (h : H c = some u) (s : Same (upd H c f) B) : Same H (upd B c u) := fun b o e => by
  by_cases hb : b = c
  · subst hb
    rw [h] at e
    rw [upd_same]
    exact e
  · rw [upd_ne hb]
    exact s _ _ ((upd_ne hb).trans e)
theorem q_keys {td : TE} {σ : L2.St} {H : Hp} {R : It → Hp → Prop} (h : td σ H fun x H1 => ∃ d o, x = .ref d ∧ ((∃ kvs, H1 d = some (.frz o (.dK kvs)) ∧ R (Itk d o kvs) H1) ∨ ∃ kvs, H1 d = some (.frz o (.dT kvs)) ∧ R (Itkt d o kvs) H1)) : iKeys td σ H R := h
theorem MdlAt.newkey {M : Int} {B : Nat} {H : Hp} {μ : Mdl} {m : Int} (h : MdlAt M B H μ) : (m, 1 + (cntM μ.ks m : Int)) ∉ μ.ks := fun hm => by
  have := (h.kg _ hm).2.2.2
  simp only at this
  omega
theorem MdlAt.sent {M : Int} {B : Nat} {H H2 : Hp} {μ : Mdl} {m : Int} {L : Addr} {xs : List V} {ids : List (Int × Int)} {ws : List (List Key × V)} (h : MdlAt M B H μ) (f : ∀ b o, b ≠ μ.c → b ≠ μ.wd → H b = some o → H2 b = some o)
    (hc : H2 μ.c = some (.dT (zk (μ.ks ++ [(m, 1 + (cntM μ.ks m : Int))]) (μ.cl ++ [L])))) (hw : H2 μ.wd = some (.dT ws)) (hwl : ws.length ≤ B + 1) (h0 : 0 ≤ m) (h1 : m ≤ M - 1) (hL : H L = some (.lst xs)) (hx : All2 (PairAt H) xs ids) (hxl : xs.length ≤ B) (nL : L ∉ μ.ls) :
    MdlAt M (B + 1) H2 { μ with cl := μ.cl ++ [L], ks := μ.ks ++ [(m, 1 + (cntM μ.ks m : Int))] } := by
  obtain ⟨ws0, hw0, hw1⟩ := h.wd
  have no : ∀ {b : Addr} {o : HO}, H b = some o → (∀ kvs, o ≠ .dT kvs) → H2 b = some o := fun {b o} e n => f b o (fun w => by rw [w, h.c] at e; exact n _ (Option.some.inj e).symm) (fun w => by rw [w, hw0] at e; exact n _ (Option.some.inj e).symm) e
  have np : ∀ {xs : List V} {ids : List (Int × Int)}, All2 (PairAt H) xs ids → All2 (PairAt H2) xs ids := fun q => q.mono fun v c z => by
    obtain ⟨i, e1, e2⟩ := z
    exact ⟨i, e1, no e2 (fun _ => by simp)⟩
  exact {
    md := no h.md (fun _ => by simp)
    c := hc
    wd := ⟨ws, hw, hwl⟩
    cw := h.cw
    g := no h.g (fun _ => by simp)
    tl := no h.tl (fun _ => by simp)
    gl := h.gl
    tll := h.tll
    kl := by show (μ.ks ++ _).length = (μ.cl ++ [L]).length; rw [List.length_append, List.length_append, h.kl]; rfl
    kb := by show (μ.ks ++ _).length ≤ B + 1; rw [List.length_append]; have := h.kb; simp; omega
    ga := fun a ha => by
      obtain ⟨xs, ids, e1, e2, e3, e4⟩ := h.ga a ha
      exact ⟨xs, ids, no e1 (fun _ => by simp), np e2, by omega, fun i hi => List.mem_append.mpr (.inl (e4 i hi))⟩
    ta := fun a ha => by
      obtain ⟨xs, ids, e1, e2, e3⟩ := h.ta a ha
      exact ⟨xs, ids, no e1 (fun _ => by simp), np e2, by omega⟩
    cl := fun a ha => by
      rcases List.mem_append.mp ha with ha | ha
      · obtain ⟨xs, ids, e1, e2, e3⟩ := h.cl a ha
        exact ⟨xs, ids, no e1 (fun _ => by simp), np e2, by omega⟩
      · rw [List.mem_singleton.mp ha]
        exact ⟨xs, ids, no hL (fun _ => by simp), np hx, by omega⟩
    nd := by
      have e : (Mdl.ls { μ with cl := μ.cl ++ [L], ks := μ.ks ++ [(m, 1 + (cntM μ.ks m : Int))] }) = μ.ls ++ [L] := by simp [Mdl.ls]
      rw [e]
      exact List.nodup_append.mpr ⟨h.nd, by simp, fun x hx y hy w => nL (by rw [← List.mem_singleton.mp hy, ← w]; exact hx)⟩
    kg := fun k hk => by
      show 0 ≤ k.1 ∧ k.1 ≤ M - 1 ∧ 1 ≤ k.2 ∧ k.2 ≤ cntM (μ.ks ++ [(m, 1 + (cntM μ.ks m : Int))]) k.1
      rw [cnt_snoc]
      rcases List.mem_append.mp hk with hk | hk
      · obtain ⟨a1, a2, a3, a4⟩ := h.kg k hk
        exact ⟨a1, a2, a3, by split <;> omega⟩
      · rw [List.mem_singleton.mp hk]
        exact ⟨h0, h1, by show (1 : Int) ≤ 1 + (cntM μ.ks m : Int); omega, by simp; omega⟩ }
/-- one more at the end of what a member got, or told -/
theorem MdlAt.app {M : Int} {B : Nat} {H : Hp} {μ : Mdl} {a : Addr} {xs : List V} {v : V} {c : Int × Int} (h : MdlAt M B H μ) (ha : a ∈ μ.ga ∨ a ∈ μ.ta) (e : H a = some (.lst xs)) (hv : PairAt H v c) (hc : a ∈ μ.ga → c ∈ μ.ks) : MdlAt M (B + 1) (upd H a (.lst (xs ++ [v]))) μ := by
  have no : ∀ {b : Addr} {o : HO}, b ≠ a → H b = some o → upd H a (.lst (xs ++ [v])) b = some o := fun n e => (upd_ne n).trans e
  have nl : ∀ {b : Addr} {o : HO}, H b = some o → (∀ ys, o ≠ .lst ys) → upd H a (.lst (xs ++ [v])) b = some o := fun {b o} e2 n => no (fun w => by rw [w, e] at e2; exact n _ (Option.some.inj e2).symm) e2
  have np : ∀ {ys : List V} {ids : List (Int × Int)}, All2 (PairAt H) ys ids → All2 (PairAt (upd H a (.lst (xs ++ [v])))) ys ids := fun q => q.mono fun v c z => by
    obtain ⟨i, e1, e2⟩ := z
    exact ⟨i, e1, nl e2 (fun _ => by simp)⟩
  obtain ⟨w1, w2, w3⟩ := List.nodup_append.mp h.nd
  obtain ⟨w4, w5, w6⟩ := List.nodup_append.mp w2
  obtain ⟨w7, w8, w9⟩ := List.nodup_append.mp w5
  have am : a ∈ μ.ga ++ (μ.ta ++ μ.cl) := by
    rcases ha with ha | ha
    · exact List.mem_append.mpr (.inl ha)
    · exact List.mem_append.mpr (.inr (List.mem_append.mpr (.inl ha)))
  have hv' : PairAt (upd H a (.lst (xs ++ [v]))) v c := by
    obtain ⟨i, e1, e2⟩ := hv
    exact ⟨i, e1, nl e2 (fun _ => by simp)⟩
  exact {
    md := nl h.md (fun _ => by simp)
    c := nl h.c (fun _ => by simp)
    wd := h.wd.imp fun ws e => ⟨nl e.1 (fun _ => by simp), by omega⟩
    cw := h.cw
    g := no (w3 _ (by simp) _ am) h.g
    tl := no (w3 _ (by simp) _ am) h.tl
    gl := h.gl
    tll := h.tll
    kl := h.kl
    kb := Nat.le_succ_of_le h.kb
    ga := fun b hb => by
      obtain ⟨ys, ids, e1, e2, e3, e4⟩ := h.ga b hb
      by_cases hba : b = a
      · subst hba
        rw [e] at e1
        cases e1
        exact ⟨_, ids ++ [c], upd_same, (np e2).snoc hv', by rw [List.length_append]; simp; omega, fun i hi => by
          rcases List.mem_append.mp hi with hi | hi
          · exact e4 i hi
          · rw [List.mem_singleton.mp hi]
            exact hc hb⟩
      · exact ⟨ys, ids, no hba e1, np e2, by omega, e4⟩
    ta := fun b hb => by
      obtain ⟨ys, ids, e1, e2, e3⟩ := h.ta b hb
      by_cases hba : b = a
      · subst hba
        rw [e] at e1
        cases e1
        exact ⟨_, ids ++ [c], upd_same, (np e2).snoc hv', by rw [List.length_append]; simp; omega⟩
      · exact ⟨ys, ids, no hba e1, np e2, by omega⟩
    cl := fun b hb => by
      obtain ⟨ys, ids, e1, e2, e3⟩ := h.cl b hb
      refine ⟨ys, ids, no (fun w => ?_) e1, np e2, by omega⟩
      subst w
      rcases ha with ha | ha
      · exact w6 b ha b (List.mem_append.mpr (.inr hb)) rfl
      · exact w9 b ha b hb rfl
    nd := h.nd
    kg := h.kg }
theorem MdlAt.more {M : Int} {B B' : Nat} {H : Hp} {μ : Mdl} (h : MdlAt M B H μ) (hb : B ≤ B') : MdlAt M B' H μ where
  md := h.md
  c := h.c
  wd := h.wd.imp fun ws e => ⟨e.1, by omega⟩
  cw := h.cw
  g := h.g
  tl := h.tl
  gl := h.gl
  tll := h.tll
  kl := h.kl
  kb := by have := h.kb; omega
  ga := fun a ha => by
    obtain ⟨xs, ids, e1, e2, e3, e4⟩ := h.ga a ha
    exact ⟨xs, ids, e1, e2, by omega, e4⟩
  ta := fun a ha => by
    obtain ⟨xs, ids, e1, e2, e3⟩ := h.ta a ha
    exact ⟨xs, ids, e1, e2, by omega⟩
  cl := fun a ha => by
    obtain ⟨xs, ids, e1, e2, e3⟩ := h.cl a ha
    exact ⟨xs, ids, e1, e2, by omega⟩
  nd := h.nd
  kg := h.kg
theorem MdlAt.new {n : Nat} {H H' : Hp} {p c wd D D2 : Addr} {as bs : List Addr} (hp : H' p = some (.dK [(.inr "causes", .ref c), (.inr "words", .ref wd), (.inr "got", .ref D), (.inr "told", .ref D2)])) (hc : H' c = some (.dT [])) (hw : H' wd = some (.dT [])) (cw : c ≠ wd)
    (hD : H' D = some (.lst (as.map V.ref))) (hD2 : H' D2 = some (.lst (bs.map V.ref))) (la : as.length = n) (lb : bs.length = n) (ha : ∀ a ∈ as, H' a = some (.lst [])) (hb : ∀ a ∈ bs, H' a = some (.lst [])) (nd : ([D, D2] ++ (as ++ bs)).Nodup) :
    MdlAt (n : Nat) 0 H' ⟨p, c, wd, D, D2, as, bs, [], []⟩ where
  md := hp
  c := hc
  wd := ⟨[], hw, Nat.le_refl _⟩
  cw := cw
  g := hD
  tl := hD2
  gl := by show (as.length : Int) = n; rw [la]
  tll := by show (bs.length : Int) = n; rw [lb]
  kl := rfl
  kb := Nat.le_refl _
  ga := fun a h => ⟨[], [], ha a h, .nil, Nat.le_refl _, fun i h => nomatch h⟩
  ta := fun a h => ⟨[], [], hb a h, .nil, Nat.le_refl _⟩
  cl := fun a h => nomatch h
  nd := by simpa [Mdl.ls] using nd
  kg := fun k h => nomatch h
theorem mergeK4 {k1 k2 k3 k4 : Key} {x y z u : V} (h1 : k1 ≠ k2) (h2 : k1 ≠ k3) (h3 : k1 ≠ k4) (h4 : k2 ≠ k3) (h5 : k2 ≠ k4) (h6 : k3 ≠ k4) : mergeK [] [(k1, x), (k2, y), (k3, z), (k4, u)] = [(k1, x), (k2, y), (k3, z), (k4, u)] := by
  show putK (putK (putK (putK [] k1 x) k2 y) k3 z) k4 u = _
  simp [putK, h1, h2, h3, h4, h5, h6]
theorem q_nePair {K : PySem.W.Frag} {H : Hp} {Q : VK} {x y : V} {c d : Int × Int} (hx : PairAt H x c) (hy : PairAt H y d) (q : Q (.bl (!decide (c = d))) H) : rNeD K x y H Q := by
  obtain ⟨i, rfl, h1⟩ := hx
  obtain ⟨j, rfl, h2⟩ := hy
  refine q_neD (d := pairOf c) (e := pairOf d) (.tup (SqT.of h1) (.cons (.int _) (.cons (.int _) .nil))) (.tup (SqT.of h2) (.cons (.int _) (.cons (.int _) .nil))) rfl rfl ?_
  rw [eqv_pair]
  exact q
theorem q_seqC {t u : TS} {D : Ends} {σ : L2.St} {H : Hp} (F : L2.St → Hp → Prop) (h : ∀ N : L2.St → Hp → Prop, (∀ σ' H', F σ' H' → N σ' H') → t { D with nx := N } σ H) (k : ∀ σ' H', F σ' H' → u D σ' H') : tSeq t u D σ H := h (u D) k
theorem MdlAt.nmc {M : Int} {B : Nat} {H : Hp} {μ : Mdl} (h : MdlAt M B H μ) : μ.md ≠ μ.c := fun e => by
  have z := h.md
  rw [e, h.c] at z
  cases z
theorem MdlAt.nmw {M : Int} {B : Nat} {H : Hp} {μ : Mdl} (h : MdlAt M B H μ) : μ.md ≠ μ.wd := fun e => by
  have z := h.md
  obtain ⟨ws, hw, _⟩ := h.wd
  rw [e, hw] at z
  cases z
theorem rep_true {n : Nat} : List.replicate n (V.bl true) = (List.replicate n true).map V.bl := by simp
theorem all_rep {n : Nat} : (List.replicate n true).all id = true := by simp
theorem All2.set {β : Type} {P : V → β → Prop} : ∀ {xs : List V} {cs : List β} {x : V} {c : β} {i : Nat}, All2 P xs cs → P x c → All2 P (xs.set i x) (cs.set i c)
  | _, _, _, _, _, .nil, _ => .nil
  | _, _, _, _, 0, .cons h t, hx => .cons hx t
  | _, _, _, _, i + 1, .cons h t, hx => .cons h (All2.set t hx)
theorem swap_at : ∀ {os : List RowD} {i : Nat} {a b : RowD}, os[i]? = some a → os[i + 1]? = some b → ∃ pre post, os = pre ++ a :: b :: post ∧ (os.set i b).set (i + 1) a = pre ++ b :: a :: post
  | [], _, _, _, h, _ => by simp at h
  | [x], 0, _, _, _, h => by simp at h
  | x :: y :: os, 0, a, b, h1, h2 => by
    simp at h1 h2
    subst h1
    subst h2
    exact ⟨[], os, rfl, rfl⟩
  | x :: os, i + 1, a, b, h1, h2 => by
    obtain ⟨pre, post, e1, e2⟩ := swap_at (os := os) (i := i) (by simpa using h1) (by simpa using h2)
    exact ⟨x :: pre, post, by rw [e1]; rfl, by show x :: ((os.set i b).set (i + 1) a) = _; rw [e2]; rfl⟩
theorem swap_perm {os : List RowD} {i : Nat} {a b : RowD} (h1 : os[i]? = some a) (h2 : os[i + 1]? = some b) : ((os.set i b).set (i + 1) a).Perm os := by
  obtain ⟨pre, post, e1, e2⟩ := swap_at h1 h2
  rw [e2, e1]
  exact List.Perm.append_left _ (List.Perm.swap ..)
theorem swap_own {os : List RowD} {i : Nat} {a b : RowD} (h1 : os[i]? = some a) (h2 : os[i + 1]? = some b) (ne : ¬ a.mem = b.mem) (k : Int) : own ((os.set i b).set (i + 1) a) k = own os k := by
  obtain ⟨pre, post, e1, e2⟩ := swap_at h1 h2
  rw [e2, e1]
  unfold own
  rw [List.filter_append, List.filter_append]
  congr 1
  by_cases ha : a.mem = k
  · have hb : ¬ b.mem = k := fun hb => ne (ha.trans hb.symm)
    simp [ha, hb]
  · by_cases hb : b.mem = k <;> simp [ha, hb]
theorem nSent_perm {rs os : List RowD} (h : rs.Perm os) : nSent rs = nSent os := (h.filter _).length_eq
theorem small_lt {n : Nat} (h : n ≤ 1000) : n < 2 ^ 8000 := Nat.lt_of_le_of_lt h (by decide +kernel)
theorem zk_get2 {ks : List (Int × Int)} {cl : List Addr} {i : Nat} {k : List Key} {v : V} (h : (zk ks cl)[i]? = some (k, v)) : ∃ c, c ∈ ks ∧ ks[i]? = some c ∧ k = keyOf c := by
  simp only [zk, List.getElem?_zipWith] at h
  split at h
  · rename_i c b hk hb
    have e1 := Option.some.inj h
    exact ⟨c, List.mem_of_getElem? hk, hk, (Prod.mk.inj e1).1.symm⟩
  · cases h
theorem alk_len {M : Int} {rs os : List RowD} : ((alk M rs os).map V.int).length ≤ M.toNat := by
  rw [List.length_map]
  unfold alk
  rw [List.length_map]
  exact Nat.le_trans (List.length_filter_le _ _) (by rw [List.length_range]; exact Nat.le_refl _)
theorem alk_comm {M : Int} {rs os : List RowD} : alk M rs os = alk M os rs := by
  unfold alk
  congr 1
  apply List.filter_congr
  intro k _
  exact decide_eq_decide.mpr ⟨fun h => h.symm, fun h => h.symm⟩
theorem All2.cut {β : Type} {P : V → β → Prop} {xs : List V} {cs : List β} (h : All2 P xs cs) (lo hi : Option Int) : All2 P (cutV xs lo hi) ((cs.drop (HT.sIx xs.length 0 lo)).take (HT.sIx xs.length xs.length hi - HT.sIx xs.length 0 lo)) := by
  unfold cutV
  exact (h.drop _).take _
theorem cut_last {xs : List V} : cutV xs (some (-1)) none = xs.drop (xs.length - 1) := by
  unfold cutV
  have e : HT.sIx xs.length 0 (some (-1)) = xs.length - 1 := by
    show (if (-1 : Int) < 0 then ((-1 : Int) + (xs.length : Int)).toNat else min (-1 : Int).toNat xs.length) = xs.length - 1
    rw [if_pos (by decide)]
    omega
  rw [HT.sIx_none, e]
  exact List.take_of_length_le (by rw [List.length_drop]; omega)
theorem fr1_keep {q : Addr} {H H' : Hp} (f : Fr1 q H H') : Keep [q] H H' := fun b o nb e => f b o (fun w => nb (by rw [w]; exact List.mem_singleton.mpr rfl)) e
theorem nSent_app {a b : List RowD} : nSent (a ++ b) = nSent a + nSent b := by
  unfold nSent
  rw [List.filter_append, List.length_append]
theorem nSent_one {ρ : RowD} : nSent [ρ] = (if ρ.isSent = true then 1 else 0) := by
  unfold nSent
  cases ρ <;> rfl
theorem row_dec {rs : List RowD} {n : Nat} {ρ : RowD} (h : rs[n]? = some ρ) : rs = rs.take n ++ ([ρ] ++ rs.drop (n + 1)) := by
  obtain ⟨hn, e⟩ := List.getElem?_eq_some_iff.mp h
  have e2 : rs.drop n = ρ :: rs.drop (n + 1) := by rw [List.drop_eq_getElem_cons hn, e]
  rw [List.singleton_append, ← e2, List.take_append_drop]
theorem setM_sent {x : Int} {ρ : RowD} : (ρ.setM x).isSent = ρ.isSent := by cases ρ <;> rfl
theorem RowD.cut1 {ρ : RowD} : cutV ρ.vs none (some 1) = [.str ρ.kind] := by cases ρ <;> rfl
theorem RowD.cut2 {ρ : RowD} : cutV ρ.vs (some 2) none = ρ.vs.drop 2 := by cases ρ <;> rfl
theorem RowD.cutn1 {ρ : RowD} : ¬ (HT.sIx ρ.vs.length 0 none = 0 ∧ HT.sIx ρ.vs.length ρ.vs.length (some 1) = ρ.vs.length) := by
  cases ρ
  · exact (show ¬ (HT.sIx 3 0 none = 0 ∧ HT.sIx 3 3 (some 1) = 3) by decide)
  · exact (show ¬ (HT.sIx 4 0 none = 0 ∧ HT.sIx 4 4 (some 1) = 4) by decide)
  · exact (show ¬ (HT.sIx 5 0 none = 0 ∧ HT.sIx 5 5 (some 1) = 5) by decide)
theorem RowD.cutn2 {ρ : RowD} : ¬ (HT.sIx ρ.vs.length 0 (some 2) = 0 ∧ HT.sIx ρ.vs.length ρ.vs.length none = ρ.vs.length) := by
  cases ρ
  · exact (show ¬ (HT.sIx 3 0 (some 2) = 0 ∧ HT.sIx 3 3 none = 3) by decide)
  · exact (show ¬ (HT.sIx 4 0 (some 2) = 0 ∧ HT.sIx 4 4 none = 4) by decide)
  · exact (show ¬ (HT.sIx 5 0 (some 2) = 0 ∧ HT.sIx 5 5 none = 5) by decide)
theorem RowD.join {ρ : RowD} {x : Int} : [V.str ρ.kind] ++ [V.int x] ++ ρ.vs.drop 2 = (ρ.setM x).vs := by cases ρ <;> rfl
theorem RowD.drop2 {ρ : RowD} : ρ.vs.drop 2 ≠ [] := by cases ρ <;> simp [RowD.vs]
theorem RowD.len5 {ρ : RowD} : (ρ.vs.drop 2).length ≤ 5 := by cases ρ <;> simp [RowD.vs]
/-- the rows made so far, the law's model beside them -/
structure RowsI (M : Int) (B : Nat) (H0 H : Hp) (md R d : Addr) (cx : List V) (μ : Mdl) (xs : List V) (rs : List RowD) : Prop where
  hm : MdlAt M B H μ
  md : μ.md = md
  sm : Same H0 H
  hR : H R = some (.lst xs)
  hx : All2 (RowAt H) xs rs
  hg : ∀ ρ ∈ rs, ρ.Good M
  hl : rs.length ≤ B
  hs : nSent rs = μ.ks.length
  hk : μ.ks.length ≤ 14
  nR : R ∉ μ.ls
  nd : d ∉ μ.ls
  hd : H d = some (.lst cx)
  fc : H0 μ.c = none
  fw : H0 μ.wd = none
  fg : ∀ x ∈ μ.ga, H0 x = none
  ft : ∀ x ∈ μ.ta, H0 x = none
  fR : H0 R = none
theorem RowsI.fr {M : Int} {B : Nat} {H0 H H' : Hp} {md R d q : Addr} {cx : List V} {μ : Mdl} {xs : List V} {rs : List RowD} (h : RowsI M B H0 H md R d cx μ xs rs) (f : Fr1 q H H') (hq : H q = none) : RowsI M B H0 H' md R d cx μ xs rs := by
  have s : Same H H' := fun b o e => f b o (ne_of_none e hq) e
  exact { hm := h.hm.same s, md := h.md, sm := h.sm.trans s, hR := s _ _ h.hR, hx := RowAt.all h.hx s, hg := h.hg, hl := h.hl, hs := h.hs, hk := h.hk, nR := h.nR, nd := h.nd, hd := s _ _ h.hd, fc := h.fc, fw := h.fw, fg := h.fg, ft := h.ft, fR := h.fR }
theorem RowsI.same {M : Int} {B : Nat} {H0 H H' : Hp} {md R d : Addr} {cx : List V} {μ : Mdl} {xs : List V} {rs : List RowD} (h : RowsI M B H0 H md R d cx μ xs rs) (s : Same H H') : RowsI M B H0 H' md R d cx μ xs rs :=
  { hm := h.hm.same s, md := h.md, sm := h.sm.trans s, hR := s _ _ h.hR, hx := RowAt.all h.hx s, hg := h.hg, hl := h.hl, hs := h.hs, hk := h.hk, nR := h.nR, nd := h.nd, hd := s _ _ h.hd, fc := h.fc, fw := h.fw, fg := h.fg, ft := h.ft, fR := h.fR }
theorem RowsI.goR {M : Int} {B : Nat} {H0 H H' : Hp} {md R d : Addr} {cx : List V} {μ : Mdl} {xs : List V} {rs : List RowD} (h : RowsI M B H0 H md R d cx μ xs rs) (f : ∀ b o, b ≠ μ.c → b ≠ μ.wd → b ∉ μ.ga → b ∉ μ.ta → H b = some o → H' b = some o) : H' R = some (.lst xs) := by
  obtain ⟨ws, hw, _⟩ := h.hm.wd
  have e := h.hR
  exact f R _ (fun w => by rw [w, h.hm.c] at e; cases e) (fun w => by rw [w, hw] at e; cases e) (fun w => h.nR (Mdl.mga w)) (fun w => h.nR (Mdl.mta w)) e
theorem RowsI.more {M : Int} {B B' : Nat} {H0 H : Hp} {md R d : Addr} {cx : List V} {μ : Mdl} {xs : List V} {rs : List RowD} (h : RowsI M B H0 H md R d cx μ xs rs) (hb : B ≤ B') : RowsI M B' H0 H md R d cx μ xs rs :=
  { hm := h.hm.more hb, md := h.md, sm := h.sm, hR := h.hR, hx := h.hx, hg := h.hg, hl := Nat.le_trans h.hl hb, hs := h.hs, hk := h.hk, nR := h.nR, nd := h.nd, hd := h.hd, fc := h.fc, fw := h.fw, fg := h.fg, ft := h.ft, fR := h.fR }
theorem snoc_nS {rs : List RowD} {ρ : RowD} : nSent (rs ++ [ρ]) = nSent rs + (if ρ.isSent = true then 1 else 0) := by rw [nSent_app, nSent_one]
theorem RowsI.go {M : Int} {B : Nat} {H0 H H' : Hp} {md R d t : Addr} {cx : List V} {μ μ' : Mdl} {xs : List V} {rs : List RowD} {ρ : RowD} (h : RowsI M B H0 H md R d cx μ xs rs) (gd : ρ.Good M) (ht : H t = some (.tup ρ.vs)) (hs14 : ρ.isSent = true → μ.ks.length < 14) (nRd : R ≠ d)
    (f : ∀ b o, b ≠ μ.c → b ≠ μ.wd → b ∉ μ.ga → b ∉ μ.ta → H b = some o → H' b = some o) (hm : MdlAt M (B + 2) H' μ') (e1 : μ'.md = μ.md) (e2 : μ'.c = μ.c) (e3 : μ'.wd = μ.wd) (e4 : μ'.ga = μ.ga) (e5 : μ'.ta = μ.ta) (e6 : μ'.ks.length = μ.ks.length + (if ρ.isSent then 1 else 0)) (e7 : ∀ x ∈ μ'.ls, x ∈ μ.ls ∨ H x = none) :
    RowsI M (B + 2) H0 (upd H' R (.lst (xs ++ [.ref t]))) md R d cx μ' (xs ++ [.ref t]) (rs ++ [ρ]) := by
  obtain ⟨ws, hw, _⟩ := h.hm.wd
  have nl : ∀ {b : Addr} {o : HO}, H b = some o → (∀ ys, o ≠ .lst ys) → (∀ kvs, o ≠ .dT kvs) → H' b = some o := fun {b o} e n1 n2 => f b o (fun w => by rw [w, h.hm.c] at e; exact n2 _ (Option.some.inj e).symm) (fun w => by rw [w, hw] at e; exact n2 _ (Option.some.inj e).symm) (fun w => by
      obtain ⟨ys, _, q, _⟩ := h.hm.ga b w
      rw [q] at e
      exact n1 _ (Option.some.inj e).symm) (fun w => by
      obtain ⟨ys, _, q, _⟩ := h.hm.ta b w
      rw [q] at e
      exact n1 _ (Option.some.inj e).symm) e
  have ll : ∀ {b : Addr} {ys : List V}, b ∉ μ.ls → H b = some (.lst ys) → H' b = some (.lst ys) := fun {b ys} n e => f b _ (fun w => by rw [w, h.hm.c] at e; cases e) (fun w => by rw [w, hw] at e; cases e) (fun w => n (Mdl.mga w)) (fun w => n (Mdl.mta w)) e
  have hR' := ll h.nR h.hR
  have hd' := ll h.nd h.hd
  have nR' : R ∉ μ'.ls := fun hx => (e7 R hx).elim h.nR (fun w => by rw [h.hR] at w; cases w)
  have nd' : d ∉ μ'.ls := fun hx => (e7 d hx).elim h.nd (fun w => by rw [h.hd] at w; cases w)
  have up : ∀ {b : Addr} {o : HO}, b ≠ R → H' b = some o → upd H' R (.lst (xs ++ [.ref t])) b = some o := fun n e => (upd_ne n).trans e
  have hL : ∀ b ∈ [R], ∃ ys, H' b = some (.lst ys) := fun b hb => by rw [List.mem_singleton.mp hb]; exact ⟨_, hR'⟩
  have kp : Keep [R] H' (upd H' R (.lst (xs ++ [.ref t]))) := fun b o n e => up (fun w => n (by rw [w]; exact List.mem_singleton.mpr rfl)) e
  have rows : All2 (RowAt (upd H' R (.lst (xs ++ [.ref t])))) xs rs := h.hx.mono fun v τ z => by
    obtain ⟨ok, u, q1, q2⟩ := z
    exact ⟨ok, u, q1, kp.no hL (nl q2 (fun _ => by simp) (fun _ => by simp)) (fun _ => by simp)⟩
  exact {
    hm := hm.keep kp hL (fun b hb hb2 => nR' (by rw [← List.mem_singleton.mp hb2]; exact hb))
    md := e1.trans h.md
    sm := fun b o e => by
      have e' := h.sm _ _ e
      have nR0 : b ≠ R := fun w => by rw [w, h.fR] at e; cases e
      exact up nR0 (f b o (fun w => by rw [w, h.fc] at e; cases e) (fun w => by rw [w, h.fw] at e; cases e) (fun w => by rw [h.fg b w] at e; cases e) (fun w => by rw [h.ft b w] at e; cases e) e')
    hR := upd_same
    hx := rows.snoc (RowAt.of gd (kp.no hL (nl ht (fun _ => by simp) (fun _ => by simp)) (fun _ => by simp)))
    hg := fun τ hτ => (List.mem_append.mp hτ).elim (h.hg τ) (fun w => by rw [List.mem_singleton.mp w]; exact gd)
    hl := by rw [List.length_append]; have := h.hl; simp; omega
    hs := by rw [snoc_nS, h.hs, e6]
    hk := by
      rw [e6]
      have := h.hk
      cases hsn : ρ.isSent with
      | true => have := hs14 hsn; simp; omega
      | false => simp; omega
    nR := nR'
    nd := nd'
    hd := up nRd.symm hd'
    fc := by rw [e2]; exact h.fc
    fw := by rw [e3]; exact h.fw
    fg := by rw [e4]; exact h.fg
    ft := by rw [e5]; exact h.ft
    fR := h.fR }
theorem E1s_ints {K : PySem.W.Frag} {H : Hp} {ns : List Int} : E1s K H (ns.map V.int) (ns.map V.int) true := by
  induction ns with
  | nil => exact .nil
  | cons n ns ih => exact E1s.cons e1_int ih
theorem E1s_rows {K : PySem.W.Frag} {H H' : Hp} {xs : List V} {rs : List RowD} (h : All2 (RowAt H') xs rs) : E1s K H xs xs true := by
  induction h with
  | nil => exact .nil
  | cons a _ ih =>
    obtain ⟨_, t, rfl, _⟩ := a
    exact E1s.cons (.same t) ih
theorem alk_all {M : Int} {rs os : List RowD} (h0 : 0 ≤ M) (h : ∀ k, own os k = own rs k) : (alk M rs os).map V.int = rgV 0 M := by
  obtain ⟨n, rfl⟩ := Int.eq_ofNat_of_zero_le h0
  rw [rgV_map]
  unfold alk
  rw [List.filter_eq_self.mpr (fun k _ => by rw [h]; exact decide_eq_true rfl), Int.toNat_natCast]
def sp_is_whole (K : PySem.W.Frag) : Sp := fun vs H Q E => (∃ (n a : Int), vs = [.int n, .int a, .non] ∧ Q (.bl (decide (a ≤ n))) H) ∨
  (∃ (n a b : Int), vs = [.int n, .int a, .int b] ∧ Q (.bl (decide (a ≤ n) && decide (n ≤ b))) H)
theorem r_is_whole_1 {K : PySem.W.Frag} {H : Hp} {Q : VK} {E : XK} {vv : List V} {n a : Int} (ee : vv = [.int n, .int a, .non])  (k : Q (.bl (decide (a ≤ n))) H) : sp_is_whole K vv H Q E := by
  subst ee
  exact .inl ⟨n, a, rfl, k⟩
theorem r_is_whole_2 {K : PySem.W.Frag} {H : Hp} {Q : VK} {E : XK} {vv : List V} {n a b : Int} (ee : vv = [.int n, .int a, .int b])  (k : Q (.bl (decide (a ≤ n) && decide (n ≤ b))) H) : sp_is_whole K vv H Q E := by
  subst ee
  exact .inr (⟨n, a, b, rfl, k⟩)
def sp_is_text_of (K : PySem.W.Frag) : Sp := fun vs H Q E => (∃ (s f l : Str) (lo hi : Nat) (m : Int), vs = [.str s, .str f, .str l, .int m] ∧ (s.length ≤ 1000) ∧ (f.cps.toList = [lo]) ∧ (l.cps.toList = [hi]) ∧ ∀ H', Same H H' → Q (.bl (textB s lo hi m)) H')
theorem r_is_text_of {K : PySem.W.Frag} {H : Hp} {Q : VK} {E : XK} {vv : List V} {s f l : Str} {lo hi : Nat} {m : Int} (ee : vv = [.str s, .str f, .str l, .int m]) (hl : s.length ≤ 1000) (hf : f.cps.toList = [lo]) (hg : l.cps.toList = [hi]) (k : ∀ H', Same H H' → Q (.bl (textB s lo hi m)) H') : sp_is_text_of K vv H Q E := by
  subst ee
  exact ⟨s, f, l, lo, hi, m, rfl, hl, hf, hg, k⟩
def sp_is_word (K : PySem.W.Frag) : Sp := fun vs H Q E => (∃ (s : Str), vs = [.str s] ∧ (s.length ≤ 1000) ∧ ∀ H', Same H H' → Q (.bl (textB s 97 122 8)) H')
theorem r_is_word {K : PySem.W.Frag} {H : Hp} {Q : VK} {E : XK} {vv : List V} {s : Str} (ee : vv = [.str s]) (hl : s.length ≤ 1000) (k : ∀ H', Same H H' → Q (.bl (textB s 97 122 8)) H') : sp_is_word K vv H Q E := by
  subst ee
  exact ⟨s, rfl, hl, k⟩
def sp_is_list (K : PySem.W.Frag) : Sp := fun vs H Q E => (∃ (x : V) (t : Value) (b : Bool), vs = [x] ∧ (TyX K H x t) ∧ (PySem.W.kitAny K t [.type "list", .type "tuple"] = some b) ∧ ∀ H', Same H H' → Q (.bl b) H')
theorem r_is_list {K : PySem.W.Frag} {H : Hp} {Q : VK} {E : XK} {vv : List V} {x : V} {t : Value} {b : Bool} (ee : vv = [x]) (ht : TyX K H x t) (hk : PySem.W.kitAny K t [.type "list", .type "tuple"] = some b) (k : ∀ H', Same H H' → Q (.bl b) H') : sp_is_list K vv H Q E := by
  subst ee
  exact ⟨x, t, b, rfl, ht, hk, k⟩
def sp_is_member (K : PySem.W.Frag) : Sp := fun vs H Q E => (∃ (n m : Int), vs = [.int n, .int m] ∧ (0 ≤ n) ∧ (n ≤ m - 1) ∧ Q (.bl true) H) ∨
  (∃ (n m : Int), vs = [.int n, .int m] ∧ (¬ n ≤ m - 1) ∧ Q (.bl false) H)
theorem r_is_member_1 {K : PySem.W.Frag} {H : Hp} {Q : VK} {E : XK} {vv : List V} {n m : Int} (ee : vv = [.int n, .int m]) (h0 : 0 ≤ n) (h1 : n ≤ m - 1) (k : Q (.bl true) H) : sp_is_member K vv H Q E := by
  subst ee
  exact .inl ⟨n, m, rfl, h0, h1, k⟩
theorem r_is_member_2 {K : PySem.W.Frag} {H : Hp} {Q : VK} {E : XK} {vv : List V} {n m : Int} (ee : vv = [.int n, .int m]) (h1 : ¬ n ≤ m - 1) (k : Q (.bl false) H) : sp_is_member K vv H Q E := by
  subst ee
  exact .inr (⟨n, m, rfl, h1, k⟩)
def sp_is_ident (K : PySem.W.Frag) : Sp := fun vs H Q E => (∃ (t : Addr) (kk n m : Int), vs = [.ref t, .int m, .non] ∧ (H t = some (.tup [.int kk, .int n])) ∧ (0 ≤ kk) ∧ (kk ≤ m - 1) ∧ (1 ≤ n) ∧ Q (.bl true) H) ∨
  (∃ (t : Addr) (kk n m : Int), vs = [.ref t, .int m, .non] ∧ (H t = some (.tup [.int kk, .int n])) ∧ (¬ kk ≤ m - 1) ∧ Q (.bl false) H)
theorem r_is_ident_1 {K : PySem.W.Frag} {H : Hp} {Q : VK} {E : XK} {vv : List V} {t : Addr} {kk n m : Int} (ee : vv = [.ref t, .int m, .non]) (ht : H t = some (.tup [.int kk, .int n])) (h0 : 0 ≤ kk) (h1 : kk ≤ m - 1) (h2 : 1 ≤ n) (k : Q (.bl true) H) : sp_is_ident K vv H Q E := by
  subst ee
  exact .inl ⟨t, kk, n, m, rfl, ht, h0, h1, h2, k⟩
theorem r_is_ident_2 {K : PySem.W.Frag} {H : Hp} {Q : VK} {E : XK} {vv : List V} {t : Addr} {kk n m : Int} (ee : vv = [.ref t, .int m, .non]) (ht : H t = some (.tup [.int kk, .int n])) (h1 : ¬ kk ≤ m - 1) (k : Q (.bl false) H) : sp_is_ident K vv H Q E := by
  subst ee
  exact .inr (⟨t, kk, n, m, rfl, ht, h1, k⟩)
def sp_check_members (K : PySem.W.Frag) : Sp := fun vs H Q E => (∃ (m : Int), vs = [.int m] ∧ (2 ≤ m) ∧ (m ≤ 5) ∧ Q .non H)
theorem r_check_members {K : PySem.W.Frag} {H : Hp} {Q : VK} {E : XK} {vv : List V} {m : Int} (ee : vv = [.int m]) (h2 : 2 ≤ m) (h5 : m ≤ 5) (k : Q .non H) : sp_check_members K vv H Q E := by
  subst ee
  exact ⟨m, rfl, h2, h5, k⟩
def sp_is_row (K : PySem.W.Frag) : Sp := fun vs H Q E => (∃ (t : Addr) (ρ : RowD) (M : Int), vs = [.ref t, .int M] ∧ (H t = some (.tup ρ.vs)) ∧ (ρ.Good M) ∧ ∀ H', Same H H' → Q (.bl true) H') ∨
  (∃ (t : Addr) (M : Int), vs = [.ref t, .int M] ∧ (H t = some (.tup (RowD.got 0 M 1).vs)) ∧ (1 ≤ M) ∧ ∀ H', Same H H' → Q (.bl false) H')
theorem r_is_row_1 {K : PySem.W.Frag} {H : Hp} {Q : VK} {E : XK} {vv : List V} {t : Addr} {ρ : RowD} {M : Int} (ee : vv = [.ref t, .int M]) (ht : H t = some (.tup ρ.vs)) (hg : ρ.Good M) (k : ∀ H', Same H H' → Q (.bl true) H') : sp_is_row K vv H Q E := by
  subst ee
  exact .inl ⟨t, ρ, M, rfl, ht, hg, k⟩
theorem r_is_row_2 {K : PySem.W.Frag} {H : Hp} {Q : VK} {E : XK} {vv : List V} {t : Addr} {M : Int} (ee : vv = [.ref t, .int M]) (ht : H t = some (.tup (RowD.got 0 M 1).vs)) (hM : 1 ≤ M) (k : ∀ H', Same H H' → Q (.bl false) H') : sp_is_row K vv H Q E := by
  subst ee
  exact .inr (⟨t, M, rfl, ht, hM, k⟩)
def sp_own_rows (K : PySem.W.Frag) : Sp := fun vs H Q E => (∃ (a : Addr) (xs : List V) (rs : List RowD) (kk : Int), vs = [.ref a, .int kk] ∧ (Sq2 K H a xs) ∧ (All2 (RowAt H) xs rs) ∧ (xs.length ≤ 400) ∧ ∀ (l : Addr) (ys : List V) (H' : Hp), Same H H' → H' l = some (.lst ys) → All2 (RowAt H') ys (own rs kk) → Q (.ref l) H')
theorem r_own_rows {K : PySem.W.Frag} {H : Hp} {Q : VK} {E : XK} {vv : List V} {a : Addr} {xs : List V} {rs : List RowD} {kk : Int} (ee : vv = [.ref a, .int kk]) (ha : Sq2 K H a xs) (hx : All2 (RowAt H) xs rs) (hl : xs.length ≤ 400) (k : ∀ (l : Addr) (ys : List V) (H' : Hp), Same H H' → H' l = some (.lst ys) → All2 (RowAt H') ys (own rs kk) → Q (.ref l) H') : sp_own_rows K vv H Q E := by
  subst ee
  exact ⟨a, xs, rs, kk, rfl, ha, hx, hl, k⟩
def sp_is_history (K : PySem.W.Frag) : Sp := fun vs H Q E => (∃ (a : Addr) (xs : List V) (rs : List RowD) (M : Int), vs = [.int M, .ref a] ∧ (2 ≤ M) ∧ (M ≤ 5) ∧ (Sq2 K H a xs) ∧ (All2 (RowAt H) xs rs) ∧ (GoodH M rs) ∧ ∀ H', Same H H' → Q (.bl true) H') ∨
  (∃ (M : Int), vs = [.int M, .non] ∧ (2 ≤ M) ∧ (M ≤ 5) ∧ ∀ H', Same H H' → Q (.bl false) H') ∨
  (∃ (a t : Addr) (M : Int), vs = [.int M, .ref a] ∧ (2 ≤ M) ∧ (M ≤ 5) ∧ (H a = some (.lst [.ref t])) ∧ (H t = some (.tup (RowD.got 0 M 1).vs)) ∧ ∀ H', Same H H' → Q (.bl false) H')
theorem r_is_history_1 {K : PySem.W.Frag} {H : Hp} {Q : VK} {E : XK} {vv : List V} {a : Addr} {xs : List V} {rs : List RowD} {M : Int} (ee : vv = [.int M, .ref a]) (h2 : 2 ≤ M) (h5 : M ≤ 5) (ha : Sq2 K H a xs) (hx : All2 (RowAt H) xs rs) (hg : GoodH M rs) (k : ∀ H', Same H H' → Q (.bl true) H') : sp_is_history K vv H Q E := by
  subst ee
  exact .inl ⟨a, xs, rs, M, rfl, h2, h5, ha, hx, hg, k⟩
theorem r_is_history_2 {K : PySem.W.Frag} {H : Hp} {Q : VK} {E : XK} {vv : List V} {M : Int} (ee : vv = [.int M, .non]) (h2 : 2 ≤ M) (h5 : M ≤ 5) (k : ∀ H', Same H H' → Q (.bl false) H') : sp_is_history K vv H Q E := by
  subst ee
  exact .inr (.inl ⟨M, rfl, h2, h5, k⟩)
theorem r_is_history_3 {K : PySem.W.Frag} {H : Hp} {Q : VK} {E : XK} {vv : List V} {a t : Addr} {M : Int} (ee : vv = [.int M, .ref a]) (h2 : 2 ≤ M) (h5 : M ≤ 5) (ha : H a = some (.lst [.ref t])) (ht : H t = some (.tup (RowD.got 0 M 1).vs)) (k : ∀ H', Same H H' → Q (.bl false) H') : sp_is_history K vv H Q E := by
  subst ee
  exact .inr (.inr (⟨a, t, M, rfl, h2, h5, ha, ht, k⟩))
def sp_check_history (K : PySem.W.Frag) (CH : Addr) : Sp := fun vs H Q E => (∃ (a : Addr) (xs : List V) (rs : List RowD) (M : Int), vs = [.int M, .ref a] ∧ (2 ≤ M) ∧ (M ≤ 5) ∧ (Sq2 K H a xs) ∧ (All2 (RowAt H) xs rs) ∧ (GoodH M rs) ∧ ∀ H', Same H H' → Q .non H') ∨
  (∃ (M : Int), vs = [.int M, .non] ∧ (2 ≤ M) ∧ (M ≤ 5) ∧ ∀ (d : Addr) (H' : Hp), Same H H' → H' d = some (.xd [("found", .non)]) → E (.ref CH) (some d) H') ∨
  (∃ (a t : Addr) (M : Int), vs = [.int M, .ref a] ∧ (2 ≤ M) ∧ (M ≤ 5) ∧ (H a = some (.lst [.ref t])) ∧ (H t = some (.tup (RowD.got 0 M 1).vs)) ∧ ∀ (d : Addr) (H' : Hp), Same H H' → H' d = some (.xd [("found", .ref a)]) → E (.ref CH) (some d) H')
theorem r_check_history_1 {K : PySem.W.Frag} {CH : Addr} {H : Hp} {Q : VK} {E : XK} {vv : List V} {a : Addr} {xs : List V} {rs : List RowD} {M : Int} (ee : vv = [.int M, .ref a]) (h2 : 2 ≤ M) (h5 : M ≤ 5) (ha : Sq2 K H a xs) (hx : All2 (RowAt H) xs rs) (hg : GoodH M rs) (k : ∀ H', Same H H' → Q .non H') : sp_check_history K CH vv H Q E := by
  subst ee
  exact .inl ⟨a, xs, rs, M, rfl, h2, h5, ha, hx, hg, k⟩
theorem r_check_history_2 {K : PySem.W.Frag} {CH : Addr} {H : Hp} {Q : VK} {E : XK} {vv : List V} {M : Int} (ee : vv = [.int M, .non]) (h2 : 2 ≤ M) (h5 : M ≤ 5) (k : ∀ (d : Addr) (H' : Hp), Same H H' → H' d = some (.xd [("found", .non)]) → E (.ref CH) (some d) H') : sp_check_history K CH vv H Q E := by
  subst ee
  exact .inr (.inl ⟨M, rfl, h2, h5, k⟩)
theorem r_check_history_3 {K : PySem.W.Frag} {CH : Addr} {H : Hp} {Q : VK} {E : XK} {vv : List V} {a t : Addr} {M : Int} (ee : vv = [.int M, .ref a]) (h2 : 2 ≤ M) (h5 : M ≤ 5) (ha : H a = some (.lst [.ref t])) (ht : H t = some (.tup (RowD.got 0 M 1).vs)) (k : ∀ (d : Addr) (H' : Hp), Same H H' → H' d = some (.xd [("found", .ref a)]) → E (.ref CH) (some d) H') : sp_check_history K CH vv H Q E := by
  subst ee
  exact .inr (.inr (⟨a, t, M, rfl, h2, h5, ha, ht, k⟩))
def sp_alike_to (K : PySem.W.Frag) (CH : Addr) : Sp := fun vs H Q E => (∃ (a b : Addr) (xs ys : List V) (rs os : List RowD) (M : Int), vs = [.int M, .ref a, .ref b] ∧ (2 ≤ M) ∧ (M ≤ 5) ∧ (Sq2 K H a xs) ∧ (All2 (RowAt H) xs rs) ∧ (GoodH M rs) ∧ (Sq2 K H b ys) ∧ (All2 (RowAt H) ys os) ∧ (GoodH M os) ∧ ∀ (l : Addr) (H' : Hp), Same H H' → H' l = some (.lst ((alk M rs os).map V.int)) → Q (.ref l) H') ∨
  (∃ (M : Int) (y : V), vs = [.int M, .non, y] ∧ (2 ≤ M) ∧ (M ≤ 5) ∧ ∀ (d : Addr) (H' : Hp), Same H H' → H' d = some (.xd [("found", .non)]) → E (.ref CH) (some d) H') ∨
  (∃ (a t : Addr) (M : Int) (y : V), vs = [.int M, .ref a, y] ∧ (2 ≤ M) ∧ (M ≤ 5) ∧ (H a = some (.lst [.ref t])) ∧ (H t = some (.tup (RowD.got 0 M 1).vs)) ∧ ∀ (d : Addr) (H' : Hp), Same H H' → H' d = some (.xd [("found", .ref a)]) → E (.ref CH) (some d) H') ∨
  (∃ (a b t : Addr) (xs : List V) (rs : List RowD) (M : Int), vs = [.int M, .ref a, .ref b] ∧ (2 ≤ M) ∧ (M ≤ 5) ∧ (Sq2 K H a xs) ∧ (All2 (RowAt H) xs rs) ∧ (GoodH M rs) ∧ (H b = some (.lst [.ref t])) ∧ (H t = some (.tup (RowD.got 0 M 1).vs)) ∧ ∀ (d : Addr) (H' : Hp), Same H H' → H' d = some (.xd [("found", .ref b)]) → E (.ref CH) (some d) H')
theorem r_alike_to_1 {K : PySem.W.Frag} {CH : Addr} {H : Hp} {Q : VK} {E : XK} {vv : List V} {a b : Addr} {xs ys : List V} {rs os : List RowD} {M : Int} (ee : vv = [.int M, .ref a, .ref b]) (h2 : 2 ≤ M) (h5 : M ≤ 5) (ha : Sq2 K H a xs) (hx : All2 (RowAt H) xs rs) (hg : GoodH M rs) (hb : Sq2 K H b ys) (hy : All2 (RowAt H) ys os) (hg2 : GoodH M os) (k : ∀ (l : Addr) (H' : Hp), Same H H' → H' l = some (.lst ((alk M rs os).map V.int)) → Q (.ref l) H') : sp_alike_to K CH vv H Q E := by
  subst ee
  exact .inl ⟨a, b, xs, ys, rs, os, M, rfl, h2, h5, ha, hx, hg, hb, hy, hg2, k⟩
theorem r_alike_to_2 {K : PySem.W.Frag} {CH : Addr} {H : Hp} {Q : VK} {E : XK} {vv : List V} {M : Int} {y : V} (ee : vv = [.int M, .non, y]) (h2 : 2 ≤ M) (h5 : M ≤ 5) (k : ∀ (d : Addr) (H' : Hp), Same H H' → H' d = some (.xd [("found", .non)]) → E (.ref CH) (some d) H') : sp_alike_to K CH vv H Q E := by
  subst ee
  exact .inr (.inl ⟨M, y, rfl, h2, h5, k⟩)
theorem r_alike_to_3 {K : PySem.W.Frag} {CH : Addr} {H : Hp} {Q : VK} {E : XK} {vv : List V} {a t : Addr} {M : Int} {y : V} (ee : vv = [.int M, .ref a, y]) (h2 : 2 ≤ M) (h5 : M ≤ 5) (ha : H a = some (.lst [.ref t])) (ht : H t = some (.tup (RowD.got 0 M 1).vs)) (k : ∀ (d : Addr) (H' : Hp), Same H H' → H' d = some (.xd [("found", .ref a)]) → E (.ref CH) (some d) H') : sp_alike_to K CH vv H Q E := by
  subst ee
  exact .inr (.inr (.inl ⟨a, t, M, y, rfl, h2, h5, ha, ht, k⟩))
theorem r_alike_to_4 {K : PySem.W.Frag} {CH : Addr} {H : Hp} {Q : VK} {E : XK} {vv : List V} {a b t : Addr} {xs : List V} {rs : List RowD} {M : Int} (ee : vv = [.int M, .ref a, .ref b]) (h2 : 2 ≤ M) (h5 : M ≤ 5) (ha : Sq2 K H a xs) (hx : All2 (RowAt H) xs rs) (hg : GoodH M rs) (hb : H b = some (.lst [.ref t])) (ht : H t = some (.tup (RowD.got 0 M 1).vs)) (k : ∀ (d : Addr) (H' : Hp), Same H H' → H' d = some (.xd [("found", .ref b)]) → E (.ref CH) (some d) H') : sp_alike_to K CH vv H Q E := by
  subst ee
  exact .inr (.inr (.inr (⟨a, b, t, xs, rs, M, rfl, h2, h5, ha, hx, hg, hb, ht, k⟩)))
def sp_law_cell_at (K : PySem.W.Frag) : Sp := fun vs H Q E => (∃ (a : Addr) (ns : List Int) (n : Int), vs = [.ref a, .int n] ∧ (SqL K H a (ns.map V.int)) ∧ (0 ≤ n) ∧ (ns.length ≤ 63) ∧ ∀ c : Int, Q (.int c) H)
theorem r_law_cell_at {K : PySem.W.Frag} {H : Hp} {Q : VK} {E : XK} {vv : List V} {a : Addr} {ns : List Int} {n : Int} (ee : vv = [.ref a, .int n]) (hs : SqL K H a (ns.map V.int)) (h0 : 0 ≤ n) (hl : ns.length ≤ 63) (k : ∀ c : Int, Q (.int c) H) : sp_law_cell_at K vv H Q E := by
  subst ee
  exact ⟨a, ns, n, rfl, hs, h0, hl, k⟩
def sp_law_pool  : Sp := fun vs H Q E => (∃ (cell : Int), vs = [.int cell] ∧ ∀ (p : Addr) (n : Int), H p = none → 0 ≤ n → Q (.ref p) (upd H p (.lst [.int n])))
theorem r_law_pool  {H : Hp} {Q : VK} {E : XK} {vv : List V} {cell : Int} (ee : vv = [.int cell])  (k : ∀ (p : Addr) (n : Int), H p = none → 0 ≤ n → Q (.ref p) (upd H p (.lst [.int n]))) : sp_law_pool  vv H Q E := by
  subst ee
  exact ⟨cell, rfl, k⟩
def sp_law_take  : Sp := fun vs H Q E => (∃ (p : Addr) (n m : Int), vs = [.ref p, .int m] ∧ (H p = some (.lst [.int n])) ∧ (0 < m) ∧ (m.natAbs < 2 ^ 8000) ∧ Q (.int (n % m)) (upd H p (.lst [.int (n / m)])))
theorem r_law_take  {H : Hp} {Q : VK} {E : XK} {vv : List V} {p : Addr} {n m : Int} (ee : vv = [.ref p, .int m]) (hp : H p = some (.lst [.int n])) (hm : 0 < m) (hb : m.natAbs < 2 ^ 8000) (k : Q (.int (n % m)) (upd H p (.lst [.int (n / m)]))) : sp_law_take  vv H Q E := by
  subst ee
  exact ⟨p, n, m, rfl, hp, hm, hb, k⟩
def sp_law_model  : Sp := fun vs H Q E => (∃ (M : Int), vs = [.int M] ∧ (2 ≤ M) ∧ (M ≤ 5) ∧ ∀ (μ : Mdl) (H' : Hp), Same H H' → MdlAt M 0 H' μ → μ.ks = [] → H μ.c = none → H μ.wd = none → (∀ x ∈ μ.ga, H x = none) → (∀ x ∈ μ.ta, H x = none) → Q (.ref μ.md) H')
theorem r_law_model  {H : Hp} {Q : VK} {E : XK} {vv : List V} {M : Int} (ee : vv = [.int M]) (h2 : 2 ≤ M) (h5 : M ≤ 5) (k : ∀ (μ : Mdl) (H' : Hp), Same H H' → MdlAt M 0 H' μ → μ.ks = [] → H μ.c = none → H μ.wd = none → (∀ x ∈ μ.ga, H x = none) → (∀ x ∈ μ.ta, H x = none) → Q (.ref μ.md) H') : sp_law_model  vv H Q E := by
  subst ee
  exact ⟨M, rfl, h2, h5, k⟩
def sp_law_otherwise (K : PySem.W.Frag) : Sp := fun vs H Q E => (∃ (μ : Mdl) (M : Int) (B : Nat) (i : Addr) (m p : Int) (c : Int × Int), vs = [.ref μ.md, .int m, .int p, .ref i] ∧ (MdlAt M B H μ) ∧ (M ≤ 5) ∧ (B ≤ 200) ∧ (H i = some (.tup [.int c.1, .int c.2])) ∧ (1 ≤ p) ∧ ∀ b : Bool, Q (.bl b) H)
theorem r_law_otherwise {K : PySem.W.Frag} {H : Hp} {Q : VK} {E : XK} {vv : List V} {μ : Mdl} {M : Int} {B : Nat} {i : Addr} {m p : Int} {c : Int × Int} (ee : vv = [.ref μ.md, .int m, .int p, .ref i]) (hm : MdlAt M B H μ) (h5 : M ≤ 5) (hB : B ≤ 200) (hi : H i = some (.tup [.int c.1, .int c.2])) (hp : 1 ≤ p) (k : ∀ b : Bool, Q (.bl b) H) : sp_law_otherwise K vv H Q E := by
  subst ee
  exact ⟨μ, M, B, i, m, p, c, rfl, hm, h5, hB, hi, hp, k⟩
def sp_law_has (K : PySem.W.Frag) : Sp := fun vs H Q E => (∃ (μ : Mdl) (M : Int) (B : Nat) (i r : Addr) (ys : List V) (ids : List (Int × Int)) (c : Int × Int), vs = [.ref μ.md, .ref r, .ref i] ∧ (MdlAt M B H μ) ∧ (H r = some (.lst ys)) ∧ (All2 (PairAt H) ys ids) ∧ (H i = some (.tup [.int c.1, .int c.2])) ∧ (c ∈ μ.ks) ∧ ∀ b : Bool, Q (.bl b) H)
theorem r_law_has {K : PySem.W.Frag} {H : Hp} {Q : VK} {E : XK} {vv : List V} {μ : Mdl} {M : Int} {B : Nat} {i r : Addr} {ys : List V} {ids : List (Int × Int)} {c : Int × Int} (ee : vv = [.ref μ.md, .ref r, .ref i]) (hm : MdlAt M B H μ) (hr : H r = some (.lst ys)) (hy : All2 (PairAt H) ys ids) (hi : H i = some (.tup [.int c.1, .int c.2])) (hc : c ∈ μ.ks) (k : ∀ b : Bool, Q (.bl b) H) : sp_law_has K vv H Q E := by
  subst ee
  exact ⟨μ, M, B, i, r, ys, ids, c, rfl, hm, hr, hy, hi, hc, k⟩
def sp_law_why_got (K : PySem.W.Frag) : Sp := fun vs H Q E => (∃ (μ : Mdl) (M : Int) (B : Nat) (i : Addr) (m : Int) (c : Int × Int), vs = [.ref μ.md, .int m, .ref i] ∧ (MdlAt M B H μ) ∧ (M ≤ 5) ∧ (0 ≤ m) ∧ (m ≤ M - 1) ∧ (H i = some (.tup [.int c.1, .int c.2])) ∧ ∀ v : V, (v = .non ∨ ∃ s, v = .str s) → (v = .non → c ∈ μ.ks) → Q v H)
theorem r_law_why_got {K : PySem.W.Frag} {H : Hp} {Q : VK} {E : XK} {vv : List V} {μ : Mdl} {M : Int} {B : Nat} {i : Addr} {m : Int} {c : Int × Int} (ee : vv = [.ref μ.md, .int m, .ref i]) (hm : MdlAt M B H μ) (h5 : M ≤ 5) (h0 : 0 ≤ m) (h1 : m ≤ M - 1) (hi : H i = some (.tup [.int c.1, .int c.2])) (k : ∀ v : V, (v = .non ∨ ∃ s, v = .str s) → (v = .non → c ∈ μ.ks) → Q v H) : sp_law_why_got K vv H Q E := by
  subst ee
  exact ⟨μ, M, B, i, m, c, rfl, hm, h5, h0, h1, hi, k⟩
def sp_law_why (K : PySem.W.Frag) : Sp := fun vs H Q E => (∃ (μ : Mdl) (M : Int) (B : Nat) (t : Addr) (ρ : RowD), vs = [.ref μ.md, .ref t] ∧ (MdlAt M B H μ) ∧ (M ≤ 5) ∧ (B ≤ 200) ∧ (H t = some (.tup ρ.vs)) ∧ (0 ≤ ρ.mem) ∧ (ρ.mem ≤ M - 1) ∧ ∀ (v : V) (H' : Hp), Same H H' → (v = .non ∨ ∃ s, v = .str s) → (v = .non → ∀ m s n, ρ = .got m s n → (s, n) ∈ μ.ks) → (ρ.isSent = true → v = .non) → Q v H')
theorem r_law_why {K : PySem.W.Frag} {H : Hp} {Q : VK} {E : XK} {vv : List V} {μ : Mdl} {M : Int} {B : Nat} {t : Addr} {ρ : RowD} (ee : vv = [.ref μ.md, .ref t]) (hm : MdlAt M B H μ) (h5 : M ≤ 5) (hB : B ≤ 200) (ht : H t = some (.tup ρ.vs)) (h0 : 0 ≤ ρ.mem) (h1 : ρ.mem ≤ M - 1) (k : ∀ (v : V) (H' : Hp), Same H H' → (v = .non ∨ ∃ s, v = .str s) → (v = .non → ∀ m s n, ρ = .got m s n → (s, n) ∈ μ.ks) → (ρ.isSent = true → v = .non) → Q v H') : sp_law_why K vv H Q E := by
  subst ee
  exact ⟨μ, M, B, t, ρ, rfl, hm, h5, hB, ht, h0, h1, k⟩
def sp_law_go (K : PySem.W.Frag) : Sp := fun vs H Q E => (∃ (μ : Mdl) (M : Int) (B : Nat) (t : Addr) (ρ : RowD), vs = [.ref μ.md, .ref t] ∧ (MdlAt M B H μ) ∧ (M ≤ 5) ∧ (B ≤ 200) ∧ (H t = some (.tup ρ.vs)) ∧ (ρ.Good M) ∧ (∀ m s n, ρ = .got m s n → (s, n) ∈ μ.ks) ∧ ∀ (μ' : Mdl) (H' : Hp), (∀ b o, b ≠ μ.c → b ≠ μ.wd → b ∉ μ.ga → b ∉ μ.ta → H b = some o → H' b = some o) → MdlAt M (B + 2) H' μ' → μ'.md = μ.md → μ'.c = μ.c → μ'.wd = μ.wd → μ'.ga = μ.ga → μ'.ta = μ.ta → μ'.ks.length = μ.ks.length + (if ρ.isSent then 1 else 0) → (∀ x ∈ μ'.ls, x ∈ μ.ls ∨ H x = none) → Q .non H')
theorem r_law_go {K : PySem.W.Frag} {H : Hp} {Q : VK} {E : XK} {vv : List V} {μ : Mdl} {M : Int} {B : Nat} {t : Addr} {ρ : RowD} (ee : vv = [.ref μ.md, .ref t]) (hm : MdlAt M B H μ) (h5 : M ≤ 5) (hB : B ≤ 200) (ht : H t = some (.tup ρ.vs)) (hg : ρ.Good M) (hk : ∀ m s n, ρ = .got m s n → (s, n) ∈ μ.ks) (k : ∀ (μ' : Mdl) (H' : Hp), (∀ b o, b ≠ μ.c → b ≠ μ.wd → b ∉ μ.ga → b ∉ μ.ta → H b = some o → H' b = some o) → MdlAt M (B + 2) H' μ' → μ'.md = μ.md → μ'.c = μ.c → μ'.wd = μ.wd → μ'.ga = μ.ga → μ'.ta = μ.ta → μ'.ks.length = μ.ks.length + (if ρ.isSent then 1 else 0) → (∀ x ∈ μ'.ls, x ∈ μ.ls ∨ H x = none) → Q .non H') : sp_law_go K vv H Q E := by
  subst ee
  exact ⟨μ, M, B, t, ρ, rfl, hm, h5, hB, ht, hg, hk, k⟩
def sp_law_may (K : PySem.W.Frag) : Sp := fun vs H Q E => (∃ (μ : Mdl) (M : Int) (B : Nat) (m : Int), vs = [.ref μ.md, .int m] ∧ (MdlAt M B H μ) ∧ (M ≤ 5) ∧ (B ≤ 200) ∧ (0 ≤ m) ∧ (m ≤ M - 1) ∧ ∀ (l : Addr) (xs : List V) (rs : List RowD) (H' : Hp), Same H H' → H l = none → H' l = some (.lst xs) → All2 (RowAt H') xs rs → (∀ ρ ∈ rs, ρ.Good M ∧ ρ.isSent = false) → xs.length ≤ 1000 → Q (.ref l) H')
theorem r_law_may {K : PySem.W.Frag} {H : Hp} {Q : VK} {E : XK} {vv : List V} {μ : Mdl} {M : Int} {B : Nat} {m : Int} (ee : vv = [.ref μ.md, .int m]) (hm : MdlAt M B H μ) (h5 : M ≤ 5) (hB : B ≤ 200) (h0 : 0 ≤ m) (h1 : m ≤ M - 1) (k : ∀ (l : Addr) (xs : List V) (rs : List RowD) (H' : Hp), Same H H' → H l = none → H' l = some (.lst xs) → All2 (RowAt H') xs rs → (∀ ρ ∈ rs, ρ.Good M ∧ ρ.isSent = false) → xs.length ≤ 1000 → Q (.ref l) H') : sp_law_may K vv H Q E := by
  subst ee
  exact ⟨μ, M, B, m, rfl, hm, h5, hB, h0, h1, k⟩
def sp_law_word  : Sp := fun vs H Q E => (∃ (q : Addr) (z : Int), vs = [.ref q] ∧ (H q = some (.lst [.int z])) ∧ ∀ (w : Str) (z' : Int) (H' : Hp), Fr1 q H H' → H' q = some (.lst [.int z']) → w.length ≤ 8 → textB w 97 122 8 = true → Q (.str w) H')
theorem r_law_word  {H : Hp} {Q : VK} {E : XK} {vv : List V} {q : Addr} {z : Int} (ee : vv = [.ref q]) (hq : H q = some (.lst [.int z])) (k : ∀ (w : Str) (z' : Int) (H' : Hp), Fr1 q H H' → H' q = some (.lst [.int z']) → w.length ≤ 8 → textB w 97 122 8 = true → Q (.str w) H') : sp_law_word  vv H Q E := by
  subst ee
  exact ⟨q, z, rfl, hq, k⟩
def sp_law_new_row (K : PySem.W.Frag) : Sp := fun vs H Q E => (∃ (μ : Mdl) (M : Int) (B : Nat) (q : Addr) (z : Int), vs = [.ref μ.md, .int M, .int 1, .ref q] ∧ (MdlAt M B H μ) ∧ (2 ≤ M) ∧ (M ≤ 5) ∧ (B ≤ 200) ∧ (H q = some (.lst [.int z])) ∧ (∀ x ∈ μ.ls, x ∉ [q]) ∧ ∀ (t : Addr) (ρ : RowD) (H' : Hp), Fr1 q H H' → H' t = some (.tup ρ.vs) → ρ.Good M → (ρ.isSent = true → μ.ks.length < 14) → Q (.ref t) H')
theorem r_law_new_row {K : PySem.W.Frag} {H : Hp} {Q : VK} {E : XK} {vv : List V} {μ : Mdl} {M : Int} {B : Nat} {q : Addr} {z : Int} (ee : vv = [.ref μ.md, .int M, .int 1, .ref q]) (hm : MdlAt M B H μ) (h2 : 2 ≤ M) (h5 : M ≤ 5) (hB : B ≤ 200) (hq : H q = some (.lst [.int z])) (nq : ∀ x ∈ μ.ls, x ∉ [q]) (k : ∀ (t : Addr) (ρ : RowD) (H' : Hp), Fr1 q H H' → H' t = some (.tup ρ.vs) → ρ.Good M → (ρ.isSent = true → μ.ks.length < 14) → Q (.ref t) H') : sp_law_new_row K vv H Q E := by
  subst ee
  exact ⟨μ, M, B, q, z, rfl, hm, h2, h5, hB, hq, nq, k⟩
def sp_law_rows (K : PySem.W.Frag) : Sp := fun vs H Q E => (∃ (a : Addr) (ns : List Int), vs = [.ref a, .int 2, .int 1] ∧ (SqL K H a (ns.map V.int)) ∧ (ns.length ≤ 63) ∧ ∀ (M : Int) (t R : Addr) (xs : List V) (rs : List RowD) (H' : Hp), Same H H' → H' t = some (.tup [.int M, .ref R]) → H' R = some (.lst xs) → All2 (RowAt H') xs rs → 2 ≤ M → M ≤ 5 → (∀ ρ ∈ rs, ρ.Good M) → rs.length ≤ 63 → nSent rs ≤ 14 → Q (.ref t) H')
theorem r_law_rows {K : PySem.W.Frag} {H : Hp} {Q : VK} {E : XK} {vv : List V} {a : Addr} {ns : List Int} (ee : vv = [.ref a, .int 2, .int 1]) (hs : SqL K H a (ns.map V.int)) (hl : ns.length ≤ 63) (k : ∀ (M : Int) (t R : Addr) (xs : List V) (rs : List RowD) (H' : Hp), Same H H' → H' t = some (.tup [.int M, .ref R]) → H' R = some (.lst xs) → All2 (RowAt H') xs rs → 2 ≤ M → M ≤ 5 → (∀ ρ ∈ rs, ρ.Good M) → rs.length ≤ 63 → nSent rs ≤ 14 → Q (.ref t) H') : sp_law_rows K vv H Q E := by
  subst ee
  exact ⟨a, ns, rfl, hs, hl, k⟩
def sp_law_exchanged (K : PySem.W.Frag) : Sp := fun vs H Q E => (∃ (R q : Addr) (xs : List V) (rs : List RowD) (z : Int), vs = [.ref R, .ref q] ∧ (H R = some (.lst xs)) ∧ (All2 (RowAt H) xs rs) ∧ (rs.length ≤ 100) ∧ (H q = some (.lst [.int z])) ∧ ∀ (l : Addr) (ys : List V) (os : List RowD) (z' : Int) (H' : Hp), Fr1 q H H' → H' q = some (.lst [.int z']) → H l = none → H' l = some (.lst ys) → All2 (RowAt H') ys os → os.Perm rs → (∀ k, own os k = own rs k) → Q (.ref l) H')
theorem r_law_exchanged {K : PySem.W.Frag} {H : Hp} {Q : VK} {E : XK} {vv : List V} {R q : Addr} {xs : List V} {rs : List RowD} {z : Int} (ee : vv = [.ref R, .ref q]) (hR : H R = some (.lst xs)) (hx : All2 (RowAt H) xs rs) (hl : rs.length ≤ 100) (hq : H q = some (.lst [.int z])) (k : ∀ (l : Addr) (ys : List V) (os : List RowD) (z' : Int) (H' : Hp), Fr1 q H H' → H' q = some (.lst [.int z']) → H l = none → H' l = some (.lst ys) → All2 (RowAt H') ys os → os.Perm rs → (∀ k, own os k = own rs k) → Q (.ref l) H') : sp_law_exchanged K vv H Q E := by
  subst ee
  exact ⟨R, q, xs, rs, z, rfl, hR, hx, hl, hq, k⟩
def sp_law_changed (K : PySem.W.Frag) : Sp := fun vs H Q E => (∃ (R q : Addr) (xs : List V) (rs : List RowD) (M z : Int), vs = [.ref R, .int M, .ref q] ∧ (H R = some (.lst xs)) ∧ (All2 (RowAt H) xs rs) ∧ (rs.length ≤ 100) ∧ (∀ ρ ∈ rs, ρ.Good M) ∧ (2 ≤ M) ∧ (M ≤ 5) ∧ (H q = some (.lst [.int z])) ∧ (R ≠ q) ∧ ∀ (l : Addr) (ys : List V) (os : List RowD) (z' : Int) (H' : Hp), Fr1 q H H' → H' q = some (.lst [.int z']) → H l = none → H' l = some (.lst ys) → All2 (RowAt H') ys os → (∀ ρ ∈ os, ρ.Good M) → os.length ≤ rs.length + 1 → nSent os ≤ nSent rs → Q (.ref l) H')
theorem r_law_changed {K : PySem.W.Frag} {H : Hp} {Q : VK} {E : XK} {vv : List V} {R q : Addr} {xs : List V} {rs : List RowD} {M z : Int} (ee : vv = [.ref R, .int M, .ref q]) (hR : H R = some (.lst xs)) (hx : All2 (RowAt H) xs rs) (hl : rs.length ≤ 100) (hg : ∀ ρ ∈ rs, ρ.Good M) (h2 : 2 ≤ M) (h5 : M ≤ 5) (hq : H q = some (.lst [.int z])) (nq : R ≠ q) (k : ∀ (l : Addr) (ys : List V) (os : List RowD) (z' : Int) (H' : Hp), Fr1 q H H' → H' q = some (.lst [.int z']) → H l = none → H' l = some (.lst ys) → All2 (RowAt H') ys os → (∀ ρ ∈ os, ρ.Good M) → os.length ≤ rs.length + 1 → nSent os ≤ nSent rs → Q (.ref l) H') : sp_law_changed K vv H Q E := by
  subst ee
  exact ⟨R, q, xs, rs, M, z, rfl, hR, hx, hl, hg, h2, h5, hq, nq, k⟩
def sp_law_own (K : PySem.W.Frag) : Sp := fun vs H Q E => (∃ (a : Addr) (xs : List V) (rs : List RowD) (kk : Int), vs = [.ref a, .int kk] ∧ (SqL K H a xs) ∧ (All2 (RowAt H) xs rs) ∧ (xs.length ≤ 400) ∧ ∀ (l : Addr) (ys : List V) (H' : Hp), Same H H' → H' l = some (.lst ys) → All2 (RowAt H') ys (own rs kk) → Q (.ref l) H')
theorem r_law_own {K : PySem.W.Frag} {H : Hp} {Q : VK} {E : XK} {vv : List V} {a : Addr} {xs : List V} {rs : List RowD} {kk : Int} (ee : vv = [.ref a, .int kk]) (ha : SqL K H a xs) (hx : All2 (RowAt H) xs rs) (hl : xs.length ≤ 400) (k : ∀ (l : Addr) (ys : List V) (H' : Hp), Same H H' → H' l = some (.lst ys) → All2 (RowAt H') ys (own rs kk) → Q (.ref l) H') : sp_law_own K vv H Q E := by
  subst ee
  exact ⟨a, xs, rs, kk, rfl, ha, hx, hl, k⟩
def sp_law_right (K : PySem.W.Frag) : Sp := fun vs H Q E => (∃ (a b : Addr) (xs ys : List V) (rs os : List RowD) (M : Int), vs = [.int M, .ref a, .ref b] ∧ (2 ≤ M) ∧ (M ≤ 5) ∧ (H a = some (.lst xs)) ∧ (All2 (RowAt H) xs rs) ∧ (GoodH M rs) ∧ (H b = some (.lst ys)) ∧ (All2 (RowAt H) ys os) ∧ (GoodH M os) ∧ ∀ H', Same H H' → Q (.bl true) H')
theorem r_law_right {K : PySem.W.Frag} {H : Hp} {Q : VK} {E : XK} {vv : List V} {a b : Addr} {xs ys : List V} {rs os : List RowD} {M : Int} (ee : vv = [.int M, .ref a, .ref b]) (h2 : 2 ≤ M) (h5 : M ≤ 5) (ha : H a = some (.lst xs)) (hx : All2 (RowAt H) xs rs) (hg : GoodH M rs) (hb : H b = some (.lst ys)) (hy : All2 (RowAt H) ys os) (hg2 : GoodH M os) (k : ∀ H', Same H H' → Q (.bl true) H') : sp_law_right K vv H Q E := by
  subst ee
  exact ⟨a, b, xs, ys, rs, os, M, rfl, h2, h5, ha, hx, hg, hb, hy, hg2, k⟩
def sp_law_refused (K : PySem.W.Frag) : Sp := fun vs H Q E => (∃ (a b t : Addr) (xs : List V) (rs : List RowD) (M : Int), vs = [.int M, .ref a, .ref b] ∧ (2 ≤ M) ∧ (M ≤ 5) ∧ (H a = some (.lst xs)) ∧ (All2 (RowAt H) xs rs) ∧ (GoodH M rs) ∧ (H b = some (.lst [.ref t])) ∧ (H t = some (.tup (RowD.got 0 M 1).vs)) ∧ ∀ H', Same H H' → Q (.ref b) H') ∨
  (∃ (a t : Addr) (M : Int) (y : V), vs = [.int M, .ref a, y] ∧ (2 ≤ M) ∧ (M ≤ 5) ∧ (H a = some (.lst [.ref t])) ∧ (H t = some (.tup (RowD.got 0 M 1).vs)) ∧ ∀ H', Same H H' → Q (.ref a) H') ∨
  (∃ (M : Int) (y : V), vs = [.int M, .non, y] ∧ (2 ≤ M) ∧ (M ≤ 5) ∧ ∀ H', Same H H' → Q .non H')
theorem r_law_refused_1 {K : PySem.W.Frag} {H : Hp} {Q : VK} {E : XK} {vv : List V} {a b t : Addr} {xs : List V} {rs : List RowD} {M : Int} (ee : vv = [.int M, .ref a, .ref b]) (h2 : 2 ≤ M) (h5 : M ≤ 5) (ha : H a = some (.lst xs)) (hx : All2 (RowAt H) xs rs) (hg : GoodH M rs) (hb : H b = some (.lst [.ref t])) (ht : H t = some (.tup (RowD.got 0 M 1).vs)) (k : ∀ H', Same H H' → Q (.ref b) H') : sp_law_refused K vv H Q E := by
  subst ee
  exact .inl ⟨a, b, t, xs, rs, M, rfl, h2, h5, ha, hx, hg, hb, ht, k⟩
theorem r_law_refused_2 {K : PySem.W.Frag} {H : Hp} {Q : VK} {E : XK} {vv : List V} {a t : Addr} {M : Int} {y : V} (ee : vv = [.int M, .ref a, y]) (h2 : 2 ≤ M) (h5 : M ≤ 5) (ha : H a = some (.lst [.ref t])) (ht : H t = some (.tup (RowD.got 0 M 1).vs)) (k : ∀ H', Same H H' → Q (.ref a) H') : sp_law_refused K vv H Q E := by
  subst ee
  exact .inr (.inl ⟨a, t, M, y, rfl, h2, h5, ha, ht, k⟩)
theorem r_law_refused_3 {K : PySem.W.Frag} {H : Hp} {Q : VK} {E : XK} {vv : List V} {M : Int} {y : V} (ee : vv = [.int M, .non, y]) (h2 : 2 ≤ M) (h5 : M ≤ 5) (k : ∀ H', Same H H' → Q .non H') : sp_law_refused K vv H Q E := by
  subst ee
  exact .inr (.inr (⟨M, y, rfl, h2, h5, k⟩))
theorem sp_own_rows_m {K : PySem.W.Frag} {vs : List V} {H : Hp} {Q Q' : VK} {E : XK} (h : sp_own_rows K vs H Q E) (m : ∀ v H, Q v H → Q' v H) : sp_own_rows K vs H Q' E := by
  obtain ⟨a, xs, rs, kk, e, ha, hx, hl, k⟩ := h
  exact ⟨a, xs, rs, kk, e, ha, hx, hl, fun l ys H' s1 s2 s3 => m _ _ (k l ys H' s1 s2 s3)⟩
theorem sp_law_own_m {K : PySem.W.Frag} {vs : List V} {H : Hp} {Q Q' : VK} {E : XK} (h : sp_law_own K vs H Q E) (m : ∀ v H, Q v H → Q' v H) : sp_law_own K vs H Q' E := by
  obtain ⟨a, xs, rs, kk, e, ha, hx, hl, k⟩ := h
  exact ⟨a, xs, rs, kk, e, ha, hx, hl, fun l ys H' s1 s2 s3 => m _ _ (k l ys H' s1 s2 s3)⟩
theorem sp_law_why_m {K : PySem.W.Frag} {vs : List V} {H : Hp} {Q Q' : VK} {E : XK} (h : sp_law_why K vs H Q E) (m : ∀ v H, Q v H → Q' v H) : sp_law_why K vs H Q' E := by
  obtain ⟨μ, M, B, t, ρ, e, hm, h5, hB, ht, h0, h1, k⟩ := h
  exact ⟨μ, M, B, t, ρ, e, hm, h5, hB, ht, h0, h1, fun v H' s1 s2 s3 s4 => m _ _ (k v H' s1 s2 s3 s4)⟩
theorem tEqOwn_m {K : PySem.W.Frag} {i j i2 j2 : Nat} : ∀ (σ : L2.St) (H : Hp) (Q Q' : Bool → Hp → Prop), (∀ b H, Q b H → Q' b H) → tTest (tOp (rEqD K) (tCall (sp_own_rows K) [] E0 (tCons (tVar i) (tCons (tVar j) tNil))) (tCall (sp_own_rows K) [] E0 (tCons (tVar i2) (tCons (tVar j2) tNil)))) σ H Q → tTest (tOp (rEqD K) (tCall (sp_own_rows K) [] E0 (tCons (tVar i) (tCons (tVar j) tNil))) (tCall (sp_own_rows K) [] E0 (tCons (tVar i2) (tCons (tVar j2) tNil)))) σ H Q' := by
  rintro σ H Q Q' h ⟨v1, e1, v2, e2, q⟩
  unfold tNil at q
  dsimp only at q
  refine ⟨v1, e1, v2, e2, ?_⟩
  unfold tNil
  dsimp only
  refine sp_own_rows_m q ?_
  rintro x H1 ⟨v3, e3, v4, e4, q2⟩
  dsimp only at q2
  refine ⟨v3, e3, v4, e4, ?_⟩
  try dsimp only
  refine sp_own_rows_m q2 ?_
  rintro y H2 ⟨d, e, g1, g2, g3, g4, b, eb, q3⟩
  exact ⟨d, e, g1, g2, g3, g4, b, eb, h _ _ q3⟩
theorem tEqOwnL_m {K : PySem.W.Frag} {i j i2 j2 : Nat} : ∀ (σ : L2.St) (H : Hp) (Q Q' : Bool → Hp → Prop), (∀ b H, Q b H → Q' b H) → tTest (tOp (rEqD K) (tCall (sp_law_own K) [] E0 (tCons (tVar i) (tCons (tVar j) tNil))) (tCall (sp_law_own K) [] E0 (tCons (tVar i2) (tCons (tVar j2) tNil)))) σ H Q → tTest (tOp (rEqD K) (tCall (sp_law_own K) [] E0 (tCons (tVar i) (tCons (tVar j) tNil))) (tCall (sp_law_own K) [] E0 (tCons (tVar i2) (tCons (tVar j2) tNil)))) σ H Q' := by
  rintro σ H Q Q' h ⟨v1, e1, v2, e2, q⟩
  unfold tNil at q
  dsimp only at q
  refine ⟨v1, e1, v2, e2, ?_⟩
  unfold tNil
  dsimp only
  refine sp_law_own_m q ?_
  rintro x H1 ⟨v3, e3, v4, e4, q2⟩
  dsimp only at q2
  refine ⟨v3, e3, v4, e4, ?_⟩
  try dsimp only
  refine sp_law_own_m q2 ?_
  rintro y H2 ⟨d, e, g1, g2, g3, g4, b, eb, q3⟩
  exact ⟨d, e, g1, g2, g3, g4, b, eb, h _ _ q3⟩
theorem tWhy_m {K : PySem.W.Frag} {i j : Nat} : ∀ (σ : L2.St) (H : Hp) (Q Q' : Bool → Hp → Prop), (∀ b H, Q b H → Q' b H) → tTest (tOp rIsNon (tCall (sp_law_why K) [] E0 (tCons (tVar i) (tCons (tVar j) tNil))) (tC .non)) σ H Q → tTest (tOp rIsNon (tCall (sp_law_why K) [] E0 (tCons (tVar i) (tCons (tVar j) tNil))) (tC .non)) σ H Q' := by
  rintro σ H Q Q' h ⟨v1, e1, v2, e2, q⟩
  refine ⟨v1, e1, v2, e2, (sp_law_why_m (show sp_law_why K ([v1, v2] ++ []) H _ E0 from q) ?_ : sp_law_why K ([v1, v2] ++ []) H _ E0)⟩
  rintro x H1 ⟨g1, b, eb, q3⟩
  exact ⟨g1, b, eb, h _ _ q3⟩
def sp_law (K : PySem.W.Frag) : Sp := fun vs H Q E => (∃ (a : Addr) (ns : List Int), vs = [.ref a] ∧ (SqL K H a (ns.map V.int)) ∧ (ns.length ≤ 63) ∧ ∀ H', Q (.bl true) H')
theorem r_law {K : PySem.W.Frag} {H : Hp} {Q : VK} {E : XK} {vv : List V} {a : Addr} {ns : List Int} (ee : vv = [.ref a]) (hs : SqL K H a (ns.map V.int)) (hl : ns.length ≤ 63) (k : ∀ H', Q (.bl true) H') : sp_law K vv H Q E := by
  subst ee
  exact ⟨a, ns, rfl, hs, hl, k⟩

set_option hygiene false
local macro_rules | `(tactic| walk_at "xm1") => `(tactic| first | fail | exact PySem.W.exm_ref (T.exC_NoHistory) (T.hdx_NoHistory) (T.ty_NoHistory) (T.sb_NoHistory_NoHistory) | exact PySem.W.exm_ref (T.exC_NoHistory) (T.hdx_NoHistory) (T.ty_NoHistory) (T.sb_NoNumber_NoHistory) | fail)
local macro_rules | `(tactic| walk_at "xf") => `(tactic| first | fail | exact T.xf_NoHistory | exact T.xf_NoNumber | fail)
local macro_rules | `(tactic| walk_at "xc") => `(tactic| first | fail | exact T.xc_NoHistory | exact T.xc_NoNumber | fail)
local macro_rules | `(tactic| walk_at "xn") => `(tactic| first | fail | exact T.nf_NoHistory | exact T.nf_NoNumber | fail)
local macro_rules | `(tactic| walk_at "tya") => `(tactic| first | fail | fail)
local macro_rules | `(tactic| walk_at "tyo") => `(tactic| first | fail | fail)
local macro_rules | `(tactic| walk_at "kio") => `(tactic| first | fail | exact kit_ref (T.hdx_NoHistory) (T.ty_NoHistory) (T.ss_NoHistory) (T.sb_NoHistory_NoHistory) | exact kit_ref (T.hdx_NoHistory) (T.ty_NoHistory) (T.ss_NoHistory) (T.sb_NoNumber_NoHistory) | fail)
local macro_rules | `(tactic| walk_at "cls") => `(tactic| first | assumption | fail)
local macro_rules | `(tactic| walk_at "noa") => `(tactic| first | assumption | fail)
local macro_rules | `(tactic| walk_at "rc") => `(tactic| first
  | fail 
  | ((with_reducible refine' r_is_whole_1 ?ze  ?_); (case ze => exact rfl))
  | ((with_reducible refine' r_is_whole_2 ?ze  ?_); (case ze => exact rfl))
  | ((with_reducible refine' r_is_text_of ?ze ?z0 ?z1 ?z2 ?_); (case ze => exact rfl); (case z0 => walk_at "sd"); (case z1 => walk_at "rf"); (case z2 => walk_at "rf"))
  | ((with_reducible refine' r_is_word ?ze ?z0 ?_); (case ze => exact rfl); (case z0 => walk_at "sd"))
  | ((with_reducible refine' r_is_list ?ze ?z0 ?z1 ?_); (case ze => exact rfl); (case z0 => walk_at "tyx"); (case z1 => walk_at "kia"))
  | ((with_reducible refine' r_is_member_1 ?ze ?z0 ?z1 ?_); (case ze => exact rfl); (case z0 => walk_at "sd"); (case z1 => walk_at "sd"))
  | ((with_reducible refine' r_is_member_2 ?ze ?z0 ?_); (case ze => exact rfl); (case z0 => walk_at "sd"))
  | ((with_reducible refine' r_is_ident_1 ?ze ?z0 ?z1 ?z2 ?z3 ?_); (case ze => exact rfl); (case z0 => walk_at "lk"); (case z1 => walk_at "sd"); (case z2 => walk_at "sd"); (case z3 => walk_at "sd"))
  | ((with_reducible refine' r_is_ident_2 ?ze ?z0 ?z1 ?_); (case ze => exact rfl); (case z0 => walk_at "lk"); (case z1 => walk_at "sd"))
  | ((with_reducible refine' r_check_members ?ze ?z0 ?z1 ?_); (case ze => exact rfl); (case z0 => walk_at "sd"); (case z1 => walk_at "sd"))
  | ((with_reducible refine' r_is_row_1 ?ze ?z0 ?z1 ?_); (case ze => exact rfl); (case z0 => walk_at "lk"); (case z1 => walk_at "sd"))
  | ((with_reducible refine' r_is_row_2 ?ze ?z0 ?z1 ?_); (case ze => exact rfl); (case z0 => walk_at "lk"); (case z1 => walk_at "sd"))
  | ((with_reducible refine' r_own_rows ?ze ?z0 ?z1 ?z2 ?_); (case ze => exact rfl); (case z0 => walk_at "sd"); (case z1 => walk_at "sd"); (case z2 => walk_at "sd"))
  | ((with_reducible refine' r_is_history_1 ?ze ?z0 ?z1 ?z2 ?z3 ?z4 ?_); (case ze => exact rfl); (case z0 => walk_at "sd"); (case z1 => walk_at "sd"); (case z2 => walk_at "sd"); (case z3 => walk_at "sd"); (case z4 => walk_at "sd"))
  | ((with_reducible refine' r_is_history_2 ?ze ?z0 ?z1 ?_); (case ze => exact rfl); (case z0 => walk_at "sd"); (case z1 => walk_at "sd"))
  | ((with_reducible refine' r_is_history_3 ?ze ?z0 ?z1 ?z2 ?z3 ?_); (case ze => exact rfl); (case z0 => walk_at "sd"); (case z1 => walk_at "sd"); (case z2 => walk_at "lk"); (case z3 => walk_at "lk"))
  | ((with_reducible refine' r_check_history_1 ?ze ?z0 ?z1 ?z2 ?z3 ?z4 ?_); (case ze => exact rfl); (case z0 => walk_at "sd"); (case z1 => walk_at "sd"); (case z2 => walk_at "sd"); (case z3 => walk_at "sd"); (case z4 => walk_at "sd"))
  | ((with_reducible refine' r_check_history_2 ?ze ?z0 ?z1 ?_); (case ze => exact rfl); (case z0 => walk_at "sd"); (case z1 => walk_at "sd"))
  | ((with_reducible refine' r_check_history_3 ?ze ?z0 ?z1 ?z2 ?z3 ?_); (case ze => exact rfl); (case z0 => walk_at "sd"); (case z1 => walk_at "sd"); (case z2 => walk_at "lk"); (case z3 => walk_at "lk"))
  | ((with_reducible refine' r_alike_to_1 ?ze ?z0 ?z1 ?z2 ?z3 ?z4 ?z5 ?z6 ?z7 ?_); (case ze => exact rfl); (case z0 => walk_at "sd"); (case z1 => walk_at "sd"); (case z2 => walk_at "sd"); (case z3 => walk_at "sd"); (case z4 => walk_at "sd"); (case z5 => walk_at "sd"); (case z6 => walk_at "sd"); (case z7 => walk_at "sd"))
  | ((with_reducible refine' r_alike_to_2 ?ze ?z0 ?z1 ?_); (case ze => exact rfl); (case z0 => walk_at "sd"); (case z1 => walk_at "sd"))
  | ((with_reducible refine' r_alike_to_3 ?ze ?z0 ?z1 ?z2 ?z3 ?_); (case ze => exact rfl); (case z0 => walk_at "sd"); (case z1 => walk_at "sd"); (case z2 => walk_at "lk"); (case z3 => walk_at "lk"))
  | ((with_reducible refine' r_alike_to_4 ?ze ?z0 ?z1 ?z2 ?z3 ?z4 ?z5 ?z6 ?_); (case ze => exact rfl); (case z0 => walk_at "sd"); (case z1 => walk_at "sd"); (case z2 => walk_at "sd"); (case z3 => walk_at "sd"); (case z4 => walk_at "sd"); (case z5 => walk_at "lk"); (case z6 => walk_at "lk"))
  | ((with_reducible refine' r_law_cell_at ?ze ?z0 ?z1 ?z2 ?_); (case ze => exact rfl); (case z0 => walk_at "sq"); (case z1 => walk_at "sd"); (case z2 => walk_at "sd"))
  | ((with_reducible refine' r_law_pool ?ze  ?_); (case ze => exact rfl))
  | ((with_reducible refine' r_law_take ?ze ?z0 ?z1 ?z2 ?_); (case ze => exact rfl); (case z0 => walk_at "lk"); (case z1 => walk_at "sd"); (case z2 => walk_at "sd"))
  | ((with_reducible refine' r_law_model ?ze ?z0 ?z1 ?_); (case ze => exact rfl); (case z0 => walk_at "sd"); (case z1 => walk_at "sd"))
  | ((with_reducible refine' r_law_otherwise ?ze ?z0 ?z1 ?z2 ?z3 ?z4 ?_); (case ze => exact rfl); (case z0 => walk_at "sd"); (case z1 => walk_at "sd"); (case z2 => walk_at "sd"); (case z3 => walk_at "lk"); (case z4 => walk_at "sd"))
  | ((with_reducible refine' r_law_has ?ze ?z0 ?z1 ?z2 ?z3 ?z4 ?_); (case ze => exact rfl); (case z0 => walk_at "sd"); (case z1 => walk_at "lk"); (case z2 => walk_at "sd"); (case z3 => walk_at "lk"); (case z4 => walk_at "sd"))
  | ((with_reducible refine' r_law_why_got ?ze ?z0 ?z1 ?z2 ?z3 ?z4 ?_); (case ze => exact rfl); (case z0 => walk_at "sd"); (case z1 => walk_at "sd"); (case z2 => walk_at "sd"); (case z3 => walk_at "sd"); (case z4 => walk_at "lk"))
  | ((with_reducible refine' r_law_why ?ze ?z0 ?z1 ?z2 ?z3 ?z4 ?z5 ?_); (case ze => exact rfl); (case z0 => walk_at "sd"); (case z1 => walk_at "sd"); (case z2 => walk_at "sd"); (case z3 => walk_at "lk"); (case z4 => walk_at "sd"); (case z5 => walk_at "sd"))
  | ((with_reducible refine' r_law_go ?ze ?z0 ?z1 ?z2 ?z3 ?z4 ?z5 ?_); (case ze => exact rfl); (case z0 => walk_at "sd"); (case z1 => walk_at "sd"); (case z2 => walk_at "sd"); (case z3 => walk_at "lk"); (case z4 => walk_at "sd"); (case z5 => walk_at "as"))
  | ((with_reducible refine' r_law_may ?ze ?z0 ?z1 ?z2 ?z3 ?z4 ?_); (case ze => exact rfl); (case z0 => walk_at "sd"); (case z1 => walk_at "sd"); (case z2 => walk_at "sd"); (case z3 => walk_at "sd"); (case z4 => walk_at "sd"))
  | ((with_reducible refine' r_law_word ?ze ?z0 ?_); (case ze => exact rfl); (case z0 => walk_at "lk"))
  | ((with_reducible refine' r_law_new_row ?ze ?z0 ?z1 ?z2 ?z3 ?z4 ?z5 ?_); (case ze => exact rfl); (case z0 => walk_at "sd"); (case z1 => walk_at "sd"); (case z2 => walk_at "sd"); (case z3 => walk_at "sd"); (case z4 => walk_at "lk"); (case z5 => walk_at "as"))
  | ((with_reducible refine' r_law_rows ?ze ?z0 ?z1 ?_); (case ze => exact rfl); (case z0 => walk_at "sq"); (case z1 => walk_at "sd"))
  | ((with_reducible refine' r_law_exchanged ?ze ?z0 ?z1 ?z2 ?z3 ?_); (case ze => exact rfl); (case z0 => walk_at "lk"); (case z1 => walk_at "sd"); (case z2 => walk_at "sd"); (case z3 => walk_at "lk"))
  | ((with_reducible refine' r_law_changed ?ze ?z0 ?z1 ?z2 ?z3 ?z4 ?z5 ?z6 ?z7 ?_); (case ze => exact rfl); (case z0 => walk_at "lk"); (case z1 => walk_at "sd"); (case z2 => walk_at "sd"); (case z3 => walk_at "as"); (case z4 => walk_at "sd"); (case z5 => walk_at "sd"); (case z6 => walk_at "lk"); (case z7 => walk_at "ne"))
  | ((with_reducible refine' r_law_own ?ze ?z0 ?z1 ?z2 ?_); (case ze => exact rfl); (case z0 => walk_at "sq"); (case z1 => walk_at "sd"); (case z2 => walk_at "sd"))
  | ((with_reducible refine' r_law_right ?ze ?z0 ?z1 ?z2 ?z3 ?z4 ?z5 ?z6 ?z7 ?_); (case ze => exact rfl); (case z0 => walk_at "sd"); (case z1 => walk_at "sd"); (case z2 => walk_at "lk"); (case z3 => walk_at "sd"); (case z4 => walk_at "sd"); (case z5 => walk_at "lk"); (case z6 => walk_at "sd"); (case z7 => walk_at "sd"))
  | ((with_reducible refine' r_law_refused_1 ?ze ?z0 ?z1 ?z2 ?z3 ?z4 ?z5 ?z6 ?_); (case ze => exact rfl); (case z0 => walk_at "sd"); (case z1 => walk_at "sd"); (case z2 => walk_at "lk"); (case z3 => walk_at "sd"); (case z4 => walk_at "sd"); (case z5 => walk_at "lk"); (case z6 => walk_at "lk"))
  | ((with_reducible refine' r_law_refused_2 ?ze ?z0 ?z1 ?z2 ?z3 ?_); (case ze => exact rfl); (case z0 => walk_at "sd"); (case z1 => walk_at "sd"); (case z2 => walk_at "lk"); (case z3 => walk_at "lk"))
  | ((with_reducible refine' r_law_refused_3 ?ze ?z0 ?z1 ?_); (case ze => exact rfl); (case z0 => walk_at "sd"); (case z1 => walk_at "sd"))
  | ((with_reducible refine' r_law ?ze ?z0 ?z1 ?_); (case ze => exact rfl); (case z0 => walk_at "sq"); (case z1 => walk_at "sd"))
  | fail)
set_option hygiene true
section
variable {P : Program} [PF P] {w : World} {K : PySem.W.Frag} {mg : Str → Option Value} {base : Heap}

theorem ok_is_whole (T : Tx K mg) : FnOk P w K mg base CX0 1 T.f_is_whole T.d_is_whole ["thing", "low", "high"] (sp_is_whole K) := by
  refine T.F_is_whole.ok sc_is_whole (fun vs H Q E h => ?_) (fun cdv A outer s H vs Q E hr h => ?_)
  · rcases h with ⟨n, a, rfl, k⟩ | ⟨n, a, b, rfl, k⟩
    all_goals rfl
  · have hu := hu_of hr
    refine ⟨_, (pss_cons (ps_if (PW.pt (pw_or (pt_not (pt_val (pe_callB (id := "isinstance") (kx_isi (K := K) rfl) (by rfl) T.z_isinstance (by decide +kernel) (pa_cons (pv 0) (pa_cons (pe_bltn (v := .ty "int") (u := .type "int") (by rfl) T.z_int (by decide +kernel) rfl) (pa_nil)))))) (pw_or1 (pt_val (pe_callB (id := "isinstance") (kx_isi (K := K) rfl) (by rfl) T.z_isinstance (by decide +kernel) (pa_cons (pv 0) (pa_cons (pe_bltn (v := .ty "bool") (u := .type "bool") (by rfl) T.z_bool (by decide +kernel) rfl) (pa_nil))))))))
      (pss_one (ps_ret pe_bl)) pss_nil)
      (pss_one (ps_ret (pe_and (pe_cmpR op_le (pv 1) (pv 0) (nomark _)) (pe_one (pe_or (pe_cmpR op_isNon (pv 2) pe_non (nomark _)) (pe_one (pe_cmpR op_le (pv 0) (pv 2) (nomark _))))))))), ?_⟩
    rcases h with ⟨n, a, rfl, k⟩ | ⟨n, a, b, rfl, k⟩
    · walk_at "rdx"
      all_goals exact R_of k (by walk_at "sv")
    · walk_at "rdx"
      all_goals exact R_of k (by walk_at "sv")
theorem ok_is_text_of (T : Tx K mg) : FnOk P w K mg base CX0 1 T.f_is_text_of T.d_is_text_of ["thing", "first", "last", "most"] (sp_is_text_of K) := by
  refine T.F_is_text_of.ok sc_is_text_of (fun vs H Q E h => ?_) (fun cdv A outer s H vs Q E hr h => ?_)
  · rcases h with ⟨s, f, l, lo, hi, m, rfl, hl, hf, hg, k⟩
    all_goals rfl
  · have hu := hu_of hr
    refine ⟨_, (pss_cons (ps_if (PW.pt (pw_or (pt_not (pt_val (pe_callB (id := "isinstance") (kx_isi (K := K) rfl) (by rfl) T.z_isinstance (by decide +kernel) (pa_cons (pv 0) (pa_cons (pe_bltn (v := .ty "str") (u := .type "str") (by rfl) T.z_str (by decide +kernel) rfl) (pa_nil)))))) (pw_or1 (pt_not (pt_chain op_le op_le pe_int (pe_callB (id := "len") (kx_len (K := K) rfl) (by rfl) T.z_len (by decide +kernel) (pa_cons (pv 0) (pa_nil))) (pv 3))))))
      (pss_one (ps_ret pe_bl)) pss_nil)
      (pss_one (ps_ret (pe_callB (id := "all") (kx_all (K := K) rfl rfl) (by rfl) T.z_all (by decide +kernel) (pa_cons (pe_lc (own := [("sign", 4)]) (g := gName 4) (tt := tYes) rfl sc_is_text_of.nd (pi_str (pv 0)) (blkOk_by (own := [("sign", 4)]) (N := ["thing", "first", "last", "most", "sign"]) (sc := defScope s_is_text_of) (by decide +kernel)) (fun _ _ _ _ _ => (pg_name (i := 4) sc_is_text_of.nd rfl (Or.inl rfl))) (fun _ _ _ _ _ => pts_nil) (fun _ _ _ _ _ => (pe_chain op_leStr op_leStr (pv 1) (pv 4) (pv 2)))) (pa_nil)))))), ?_⟩
    rcases h with ⟨s, f, l, lo, hi, m, rfl, hl, hf, hg, k⟩
    walk_at "rdx"
    · refine lc_signsB (fun c => decide (lo ≤ c) && decide (c ≤ hi)) (by omega) (by assumption) ?_ ?_
      · intro c H2 R s2 hR
        walk_at "rdx"
        all_goals exact R_of (hR H2 (Same.refl H2)) (by walk_at "sv")
      · intro H' s2 e
        walk_at "rd"
        exact R_of (k H' s2) (by unfold textB; simp_all [List.all_map])
    all_goals exact R_of (k H (Same.refl H)) (by unfold textB; walk_at "sv")
theorem ok_is_word (T : Tx K mg) : FnOk P w K mg base CX0 2 T.f_is_word T.d_is_word ["thing"] (sp_is_word K) := by
  refine T.F_is_word.ok sc_is_word (fun vs H Q E h => ?_) (fun cdv A outer s H vs Q E hr h => ?_)
  · rcases h with ⟨s, rfl, hl, k⟩
    all_goals rfl
  · have hu := hu_of hr
    refine ⟨_, (pss_one (ps_ret (pe_call (ok_is_text_of (P := P) T) (hr.mono (by decide)) rfl T.m_is_text_of T.k_is_text_of T.b_is_text_of .nil pass0 (pa_cons (pv 0) (pa_cons pe_str (pa_cons pe_str (pa_cons (pe_glob (v := .int 8) rfl T.g_MOST_SIGNS ⟨_, rfl⟩) (pa_nil)))))))), ?_⟩
    rcases h with ⟨s, rfl, hl, k⟩
    walk_at "rd"
    exact k _ (by assumption)
theorem ok_is_list (T : Tx K mg) : FnOk P w K mg base CX0 1 T.f_is_list T.d_is_list ["thing"] (sp_is_list K) := by
  refine T.F_is_list.ok sc_is_list (fun vs H Q E h => ?_) (fun cdv A outer s H vs Q E hr h => ?_)
  · rcases h with ⟨x, t, b, rfl, ht, hk, k⟩
    all_goals rfl
  · have hu := hu_of hr
    refine ⟨_, (pss_one (ps_ret (pe_callB (id := "isinstance") (kx_isiT (K := K) rfl) (by rfl) T.z_isinstance (by decide +kernel) (pa_cons (pv 0) (pa_cons (pe_tup (pa_cons (pe_bltn (v := .ty "list") (u := .type "list") (by rfl) T.z_list (by decide +kernel) rfl) (pa_cons (pe_bltn (v := .ty "tuple") (u := .type "tuple") (by rfl) T.z_tuple (by decide +kernel) rfl) (pa_nil)))) (pa_nil)))))), ?_⟩
    rcases h with ⟨x, t, b, rfl, ht, hk, k⟩
    (repeat walk_at "rd0")
    intro q hq
    with_reducible refine q_nil ?_
    refine q_isiT (us := [.type "list", .type "tuple"]) upd_same (.cons (.ty _) (.cons (.ty _) .nil)) (TyX.mono ht (Same.snew (Same.refl H) hq)) hk ?_
    exact k _ (Same.snew (Same.refl H) hq)
theorem ok_is_member (T : Tx K mg) : FnOk P w K mg base CX0 2 T.f_is_member T.d_is_member ["thing", "members"] (sp_is_member K) := by
  refine T.F_is_member.ok sc_is_member (fun vs H Q E h => ?_) (fun cdv A outer s H vs Q E hr h => ?_)
  · rcases h with ⟨n, m, rfl, h0, h1, k⟩ | ⟨n, m, rfl, h1, k⟩
    all_goals rfl
  · have hu := hu_of hr
    refine ⟨_, (pss_one (ps_ret (pe_call (ok_is_whole (P := P) T) (hr.mono (by decide)) rfl T.m_is_whole T.k_is_whole T.b_is_whole .nil pass0 (pa_cons (pv 0) (pa_cons pe_int (pa_cons (pe_op op_sub (pv 1) pe_int) (pa_nil))))))), ?_⟩
    rcases h with ⟨n, m, rfl, h0, h1, k⟩ | ⟨n, m, rfl, h1, k⟩
    · walk_at "rdx"
      exact R_of k (by simp [h0, h1])
    · walk_at "rdx"
      exact R_of k (by simp [h1])
theorem ok_is_ident (T : Tx K mg) : FnOk P w K mg base CX0 3 T.f_is_ident T.d_is_ident ["thing", "members", "high"] (sp_is_ident K) := by
  refine T.F_is_ident.ok sc_is_ident (fun vs H Q E h => ?_) (fun cdv A outer s H vs Q E hr h => ?_)
  · rcases h with ⟨t, kk, n, m, rfl, ht, h0, h1, h2, k⟩ | ⟨t, kk, n, m, rfl, ht, h1, k⟩
    all_goals rfl
  · have hu := hu_of hr
    refine ⟨_, (pss_cons (ps_if (PW.pt (pw_or (pt_not (pt_val (pe_callB (id := "isinstance") (kx_isi (K := K) rfl) (by rfl) T.z_isinstance (by decide +kernel) (pa_cons (pv 0) (pa_cons (pe_bltn (v := .ty "tuple") (u := .type "tuple") (by rfl) T.z_tuple (by decide +kernel) rfl) (pa_nil)))))) (pw_or1 (pt_cmpR op_ne (pe_callB (id := "len") (kx_len (K := K) rfl) (by rfl) T.z_len (by decide +kernel) (pa_cons (pv 0) (pa_nil))) pe_int (nomark _)))))
      (pss_one (ps_ret pe_bl)) pss_nil)
      (pss_one (ps_ret (pe_and (pe_call (ok_is_member (P := P) T) (hr.mono (by decide)) rfl T.m_is_member T.k_is_member T.b_is_member .nil pass0 (pa_cons (pe_ix (ki_tup (K := K) rfl) (pv 0) pe_int (fun _ _ => rfl)) (pa_cons (pv 1) (pa_nil)))) (pe_one (pe_call (ok_is_whole (P := P) T) (hr.mono (by decide)) rfl T.m_is_whole T.k_is_whole T.b_is_whole .nil pass0 (pa_cons (pe_ix (ki_tup (K := K) rfl) (pv 0) pe_int (fun _ _ => rfl)) (pa_cons pe_int (pa_cons (pv 2) (pa_nil)))))))))), ?_⟩
    rcases h with ⟨t, kk, n, m, rfl, ht, h0, h1, h2, k⟩ | ⟨t, kk, n, m, rfl, ht, h1, k⟩
    · walk_at "rdx"
      exact R_of k (by simp [h2])
    · walk_at "rdx"
      exact k
theorem ok_check_members (T : Tx K mg) : FnOk P w K mg base (L2.CX P w) 3 T.f_check_members T.d_check_members ["members"] (sp_check_members K) := by
  refine T.F_check_members.okX sc_check_members (fun vs H Q E h => ?_) (fun cdv A outer s H vs Q E hr h => ?_)
  · rcases h with ⟨m, rfl, h2, h5, k⟩
    all_goals rfl
  · have hu := hu_of hr
    refine ⟨_, (pss_one (ps_if (pt_not (pt_val (pe_call (ok_is_whole (P := P) T) (hr.mono (by decide)) rfl T.m_is_whole T.k_is_whole T.b_is_whole .nil pass0 (pa_cons (pv 0) (pa_cons (pe_glob (v := .int 2) rfl T.g_LEAST_MEMBERS ⟨_, rfl⟩) (pa_cons (pe_glob (v := .int 5) rfl T.g_MOST_MEMBERS ⟨_, rfl⟩) (pa_nil)))))))
      (pss_one (ps_raiseX rfl (takes_of rfl rfl rfl rfl) ‹PF P› T.ox_NoNumber T.z_super (hr.mono (by decide)) rfl T.g_NoNumber (pv 0))) pss_nil)), ?_⟩
    rcases h with ⟨m, rfl, h2, h5, k⟩
    walk_at "rdx"
    all_goals exact k
theorem ok_is_row (T : Tx K mg) : FnOk P w K mg base CX0 4 T.f_is_row T.d_is_row ["thing", "members"] (sp_is_row K) := by
  refine T.F_is_row.ok sc_is_row (fun vs H Q E h => ?_) (fun cdv A outer s H vs Q E hr h => ?_)
  · rcases h with ⟨t, ρ, M, rfl, ht, hg, k⟩ | ⟨t, M, rfl, ht, hM, k⟩
    all_goals rfl
  · have hu := hu_of hr
    refine ⟨_, (pss_cons (ps_if (PW.pt (pw_or (pt_not (pt_val (pe_callB (id := "isinstance") (kx_isi (K := K) rfl) (by rfl) T.z_isinstance (by decide +kernel) (pa_cons (pv 0) (pa_cons (pe_bltn (v := .ty "tuple") (u := .type "tuple") (by rfl) T.z_tuple (by decide +kernel) rfl) (pa_nil)))))) (pw_or (pt_cmpR op_lt (pe_callB (id := "len") (kx_len (K := K) rfl) (by rfl) T.z_len (by decide +kernel) (pa_cons (pv 0) (pa_nil))) pe_int (nomark _)) (pw_or1 (pt_not (pt_val (pe_call (ok_is_member (P := P) T) (hr.mono (by decide)) rfl T.m_is_member T.k_is_member T.b_is_member .nil pass0 (pa_cons (pe_ix (ki_tup (K := K) rfl) (pv 0) pe_int (fun _ _ => rfl)) (pa_cons (pv 1) (pa_nil))))))))))
      (pss_one (ps_ret pe_bl)) pss_nil)
      (pss_cons (ps_if (pt_cmpR op_eq (pe_ix (ki_tup (K := K) rfl) (pv 0) pe_int (fun _ _ => rfl)) pe_str (nomark _))
      (pss_one (ps_ret (pe_and (pe_cmpR op_eq (pe_callB (id := "len") (kx_len (K := K) rfl) (by rfl) T.z_len (by decide +kernel) (pa_cons (pv 0) (pa_nil))) pe_int (nomark _)) (pe_one (pe_call (ok_is_word (P := P) T) (hr.mono (by decide)) rfl T.m_is_word T.k_is_word T.b_is_word .nil pass0 (pa_cons (pe_ix (ki_tup (K := K) rfl) (pv 0) pe_int (fun _ _ => rfl)) (pa_nil))))))) pss_nil)
      (pss_cons (ps_if (pt_cmpR op_eq (pe_ix (ki_tup (K := K) rfl) (pv 0) pe_int (fun _ _ => rfl)) pe_str (nomark _))
      (pss_one (ps_ret (pe_call (ok_is_ident (P := P) T) (hr.mono (by decide)) rfl T.m_is_ident T.k_is_ident T.b_is_ident_2 T.v_is_ident_2 pass0 (pa_cons (pe_slice (ks_tup (K := K) rfl) (pv 0) (po_some pe_int) po_none) (pa_cons (pv 1) (pa_nil)))))) pss_nil)
      (pss_one (ps_ret (pe_and (pe_cmpR op_eq (pe_ix (ki_tup (K := K) rfl) (pv 0) pe_int (fun _ _ => rfl)) pe_str (nomark _)) (pe_and (pe_call (ok_is_whole (P := P) T) (hr.mono (by decide)) rfl T.m_is_whole T.k_is_whole T.b_is_whole_2 T.v_is_whole_2 pass0 (pa_cons (pe_ix (ki_tup (K := K) rfl) (pv 0) pe_int (fun _ _ => rfl)) (pa_cons pe_int (pa_nil)))) (pe_one (pe_call (ok_is_ident (P := P) T) (hr.mono (by decide)) rfl T.m_is_ident T.k_is_ident T.b_is_ident_2 T.v_is_ident_2 pass0 (pa_cons (pe_slice (ks_tup (K := K) rfl) (pv 0) (po_some pe_int) po_none) (pa_cons (pv 1) (pa_nil)))))))))))), ?_⟩
    rcases h with ⟨t, ρ, M, rfl, ht, hg, k⟩ | ⟨t, M, rfl, ht, hM, k⟩
    · have n1 : ¬ (Str.ofString "got" = Str.ofString "sent") := by decide +kernel
      have n2 : ¬ (Str.ofString "told" = Str.ofString "sent") := by decide +kernel
      have n3 : ¬ (Str.ofString "told" = Str.ofString "got") := by decide +kernel
      cases ρ with
      | sent m w =>
        obtain ⟨g0, g1, g2, g3⟩ := hg
        have ht : H t = some (.tup [.str "sent", .int m, .str w]) := ht
        walk_at "rdn"
        intro H1 s1
        exact R_of (k _ s1) (by rw [g3])
      | got m s n =>
        obtain ⟨g0, g1, g2, g3, g4⟩ := hg
        have ht : H t = some (.tup [.str "got", .int m, .int s, .int n]) := ht
        walk_at "rdn"
        refine q_slTe (ys := [.int s, .int n]) (SqT.of ht) (show ¬ (HT.sIx 4 0 (some 2) = 0 ∧ HT.sIx 4 4 none = 4) by decide) rfl ?_
        intro d hd
        walk_at "rdn"
        exact k _ (Same.new hd)
      | told m p s n =>
        obtain ⟨g0, g1, g2, g3, g4, g5⟩ := hg
        have ht : H t = some (.tup [.str "told", .int m, .int p, .int s, .int n]) := ht
        walk_at "rdn"
        refine q_slTe (ys := [.int s, .int n]) (SqT.of ht) (show ¬ (HT.sIx 5 0 (some 3) = 0 ∧ HT.sIx 5 5 none = 5) by decide) rfl ?_
        intro d hd
        walk_at "rdn"
        exact k _ (Same.new hd)
    · have n1 : ¬ (Str.ofString "got" = Str.ofString "sent") := by decide +kernel
      have ht : H t = some (.tup [.str "got", .int 0, .int M, .int 1]) := ht
      walk_at "rdn"
      refine q_slTe (ys := [.int M, .int 1]) (SqT.of ht) (show ¬ (HT.sIx 4 0 (some 2) = 0 ∧ HT.sIx 4 4 none = 4) by decide) rfl ?_
      intro d hd
      walk_at "rdn"
      exact k _ (Same.new hd)
theorem ok_own_rows (T : Tx K mg) : FnOk P w K mg base CX0 1 T.f_own_rows T.d_own_rows ["rows", "member"] (sp_own_rows K) := by
  refine T.F_own_rows.ok sc_own_rows (fun vs H Q E h => ?_) (fun cdv A outer s H vs Q E hr h => ?_)
  · rcases h with ⟨a, xs, rs, kk, rfl, ha, hx, hl, k⟩
    all_goals rfl
  · have hu := hu_of hr
    refine ⟨_, (pss_one (ps_ret (pe_lc (own := [("row", 2)]) (g := gName 2) rfl sc_own_rows.nd (kpi_seq (K := K) rfl (pv 0)) (blkOk_by (own := [("row", 2)]) (N := ["rows", "member", "row"]) (sc := defScope s_own_rows) (by decide +kernel)) (fun _ _ _ _ _ => (pg_name (i := 2) sc_own_rows.nd rfl (Or.inl rfl))) (fun _ _ _ _ _ => (pts_one (pt_cmpR op_eq (pe_ix (ki_tup (K := K) rfl) (pv 2) pe_int (fun _ _ => rfl)) (pv 1) (nomark _)))) (fun _ _ _ _ _ => (pv 2))))), ?_⟩
    rcases h with ⟨a, xs, rs, kk, rfl, ha, hx, hl, k⟩
    walk_at "rdn"
    rcases ha with ha | ha
    · refine q_seqL ?_
      walk_at "rdn"
      intro D hD
      refine lc_any walk_list (fun i ys _ => All2 (RowAt H) ys (own (rs.take i) kk)) (by omega) (fun _ _ _ _ h _ => h) (fun _ _ _ _ h => h) .nil (fun H' s => SqL.of (s _ _ ha)) hD ?_ ?_ gName_m tTestIx_m
      · rintro i v ys B1 B2 R R2 hi s6 hP hDB ⟨rfl, hv⟩ hR hR2
        obtain ⟨ρ, hρ, ok, t, rfl, ht⟩ := hx.get hv
        have ht' := s6 _ _ ht
        refine ⟨wipe_set, ?_⟩
        walk_at "rdn"
        refine q_ixT (SqT.of ht') RowD.at1 ?_
        walk_at "rdn"
        refine ⟨hR _ _ (Same.refl _) (fun hb => by rw [own_stepF hρ hb]; exact hP), fun hb => ?_⟩
        walk_at "rdn"
        exact hR2 _ _ (Same.refl _) (by rw [own_stepT hρ hb]; exact hP.snoc ⟨ok, t, rfl, ht⟩)
      · intro ys B1 s6 hP hD3
        walk_at "rdn"
        rw [List.take_of_length_le (by rw [hx.len]; exact Nat.le_refl _)] at hP
        exact k D ys _ s6 hD3 (RowAt.all hP s6)
    · refine q_seqT ?_
      walk_at "rdn"
      intro D hD
      refine lc_any walk_tup (fun i ys _ => All2 (RowAt H) ys (own (rs.take i) kk)) (by omega) (fun _ _ _ _ h _ => h) (fun _ _ _ _ h => h) .nil (fun H' s => SqT.of (s _ _ ha)) hD ?_ ?_ gName_m tTestIx_m
      · rintro i v ys B1 B2 R R2 hi s6 hP hDB ⟨rfl, hv⟩ hR hR2
        obtain ⟨ρ, hρ, ok, t, rfl, ht⟩ := hx.get hv
        have ht' := s6 _ _ ht
        refine ⟨wipe_set, ?_⟩
        walk_at "rdn"
        refine q_ixT (SqT.of ht') RowD.at1 ?_
        walk_at "rdn"
        refine ⟨hR _ _ (Same.refl _) (fun hb => by rw [own_stepF hρ hb]; exact hP), fun hb => ?_⟩
        walk_at "rdn"
        exact hR2 _ _ (Same.refl _) (by rw [own_stepT hρ hb]; exact hP.snoc ⟨ok, t, rfl, ht⟩)
      · intro ys B1 s6 hP hD3
        walk_at "rdn"
        rw [List.take_of_length_le (by rw [hx.len]; exact Nat.le_refl _)] at hP
        exact k D ys _ s6 hD3 (RowAt.all hP s6)
theorem ok_is_history (T : Tx K mg) : FnOk P w K mg base (L2.CX P w) 5 T.f_is_history T.d_is_history ["members", "rows"] (sp_is_history K) := by
  refine T.F_is_history.okX sc_is_history (fun vs H Q E h => ?_) (fun cdv A outer s H vs Q E hr h => ?_)
  · rcases h with ⟨a, xs, rs, M, rfl, h2, h5, ha, hx, hg, k⟩ | ⟨M, rfl, h2, h5, k⟩ | ⟨a, t, M, rfl, h2, h5, ha, ht, k⟩
    all_goals rfl
  · have hu := hu_of hr
    refine ⟨_, (pss_cons (ps_expr (pe_callSD (ok_check_members (P := P) T) (hr.mono (by decide)) rfl T.m_check_members T.k_check_members T.b_check_members .nil (fun σ => passX (takes_of rfl rfl rfl rfl) σ) (pa_cons (pv 0) (pa_nil))))
      (pss_cons (ps_if (PW.pt (pw_or (pt_not (pt_val (pe_call (ok_is_list (P := P) T) (hr.mono (by decide)) rfl T.m_is_list T.k_is_list T.b_is_list .nil pass0 (pa_cons (pv 1) (pa_nil))))) (pw_or1 (pt_cmpR op_gt (pe_callB (id := "len") (kx_len (K := K) rfl) (by rfl) T.z_len (by decide +kernel) (pa_cons (pv 1) (pa_nil))) (pe_glob (v := .int 400) rfl T.g_MOST_ROWS ⟨_, rfl⟩) (nomark _)))))
      (pss_one (ps_ret pe_bl)) pss_nil)
      (pss_cons (ps_if (pt_not (pt_val (pe_callB (id := "all") (kx_all (K := K) rfl rfl) (by rfl) T.z_all (by decide +kernel) (pa_cons (pe_lc (own := [("row", 2)]) (g := gName 2) (tt := tYes) rfl sc_is_history.nd (kpi_seq (K := K) rfl (pv 1)) (blkOk_by (own := [("row", 2)]) (N := ["members", "rows", "row"]) (sc := defScope s_is_history) (by decide +kernel)) (fun _ _ _ _ _ => (pg_name (i := 2) sc_is_history.nd rfl (Or.inl rfl))) (fun _ _ _ _ _ => pts_nil) (fun _ _ _ _ _ => (pe_call (ok_is_row (P := P) T) (hr.mono (by decide)) rfl T.m_is_row T.k_is_row T.b_is_row .nil pass0 (pa_cons (pv 2) (pa_cons (pv 0) (pa_nil)))))) (pa_nil)))))
      (pss_one (ps_ret pe_bl)) pss_nil)
      (pss_one (ps_ret (pe_cmpR op_le (pe_callB (id := "len") (kx_len (K := K) rfl) (by rfl) T.z_len (by decide +kernel) (pa_cons (pe_lc (own := [("row", 2)]) (g := gName 2) rfl sc_is_history.nd (kpi_seq (K := K) rfl (pv 1)) (blkOk_by (own := [("row", 2)]) (N := ["members", "rows", "row"]) (sc := defScope s_is_history) (by decide +kernel)) (fun _ _ _ _ _ => (pg_name (i := 2) sc_is_history.nd rfl (Or.inl rfl))) (fun _ _ _ _ _ => (pts_one (pt_cmpR op_eq (pe_ix (ki_tup (K := K) rfl) (pv 2) pe_int (fun _ _ => rfl)) pe_str (nomark _)))) (fun _ _ _ _ _ => (pv 2))) (pa_nil))) (pe_glob (v := .int 30) rfl T.g_MOST_LETTERS ⟨_, rfl⟩) (nomark _))))))), ?_⟩
    rcases h with ⟨a, xs, rs, M, rfl, h2, h5, ha, hx, hg, k⟩ | ⟨M, rfl, h2, h5, k⟩ | ⟨a, t, M, rfl, h2, h5, ha, ht, k⟩
    · have hlx := hx.len
      have hlr := hg.len
      have hall : ∀ (i : Nat) (ρ : RowD), rs[i]? = some ρ → ρ.Good M := fun i ρ h => hg.all ρ (List.mem_of_getElem? h)
      rcases ha with ha | ha
      · walk_at "rdn"
        intro H1 s1
        have ha := s1 _ _ ha
        have hx := RowAt.all hx s1
        have hlr2 : (xs.length : Int) ≤ 400 := by omega
        walk_at "rdn"
        refine q_seqL ?_
        walk_at "rdn"
        intro D hD
        refine lc_any walk_list (fun i ys _ => ys = List.replicate i (V.bl true)) (by omega) (fun _ _ _ _ h _ => h) (fun _ _ _ _ h => h) rfl (fun H' s => SqL.of (s _ _ ha)) hD ?_ ?_ gName_m tYes_m
        · rintro i v ys B1 B2 R R2 hi s6 hP hDB ⟨rfl, hv⟩ hR hR2
          obtain ⟨ρ, hρ, ok, t, rfl, ht⟩ := hx.get hv
          have gg := hall i ρ hρ
          refine ⟨wipe_set, q_yes ⟨hR true _ (Same.refl _) (fun h => nomatch h), fun _ => ?_⟩⟩
          walk_at "rdn"
          intro H2 s2
          exact hR2 _ _ s2 (by rw [hP, List.replicate_succ'])
        · intro ys B1 s6 hP hD3
          rw [rep_true] at hP
          subst hP
          walk_at "rdn"
          rw [all_rep]
          walk_at "rdn"
          refine q_seqL ?_
          walk_at "rdn"
          intro D2 hD2
          refine lc_any walk_list (fun i ys _ => ys.length = nSent (rs.take i)) (by omega) (fun _ _ _ _ h _ => h) (fun _ _ _ _ h => h) rfl (fun H' s => SqL.of (s _ _ (s6 _ _ ha))) hD2 ?_ ?_ gName_m tTestIxC_m
          · rintro i v ys B1 B2 R R2 hi s7 hP hDB ⟨rfl, hv⟩ hR hR2
            obtain ⟨ρ, hρ, ok, t, rfl, ht⟩ := hx.get hv
            have ht := s7 _ _ (s6 _ _ ht)
            refine ⟨wipe_set, ?_⟩
            walk_at "rdn"
            refine q_ixT (SqT.of ht) RowD.at0 ?_
            walk_at "rdn"
            rw [RowD.kind_sent]
            refine ⟨hR _ _ (Same.refl _) (fun hb => by rw [nSent_step hρ, hb]; exact hP), fun hb => ?_⟩
            walk_at "rdn"
            exact hR2 _ _ (Same.refl _) (by rw [nSent_step hρ, hb, List.length_append, hP]; rfl)
          · intro ys B2 s7 hP hD4
            walk_at "rdn"
            rw [List.take_of_length_le (by omega)] at hP
            have hsn := hg.snt
            exact R_of (k _ (s1.trans (s6.trans s7))) (by rw [decide_eq_true (by omega)])
      · walk_at "rdn"
        refine r_is_list rfl (ht := .base (.tup ha)) (hk := ka_f kt_tuple_list (ka_t kt_tuple_tuple)) ?_
        intro H1 s1
        have ha := s1 _ _ ha
        have hx := RowAt.all hx s1
        have hlr2 : (xs.length : Int) ≤ 400 := by omega
        walk_at "rdn"
        refine q_seqT ?_
        walk_at "rdn"
        intro D hD
        refine lc_any walk_tup (fun i ys _ => ys = List.replicate i (V.bl true)) (by omega) (fun _ _ _ _ h _ => h) (fun _ _ _ _ h => h) rfl (fun H' s => SqT.of (s _ _ ha)) hD ?_ ?_ gName_m tYes_m
        · rintro i v ys B1 B2 R R2 hi s6 hP hDB ⟨rfl, hv⟩ hR hR2
          obtain ⟨ρ, hρ, ok, t, rfl, ht⟩ := hx.get hv
          have gg := hall i ρ hρ
          refine ⟨wipe_set, q_yes ⟨hR true _ (Same.refl _) (fun h => nomatch h), fun _ => ?_⟩⟩
          walk_at "rdn"
          intro H2 s2
          exact hR2 _ _ s2 (by rw [hP, List.replicate_succ'])
        · intro ys B1 s6 hP hD3
          rw [rep_true] at hP
          subst hP
          walk_at "rdn"
          rw [all_rep]
          walk_at "rdn"
          refine q_seqT ?_
          walk_at "rdn"
          intro D2 hD2
          refine lc_any walk_tup (fun i ys _ => ys.length = nSent (rs.take i)) (by omega) (fun _ _ _ _ h _ => h) (fun _ _ _ _ h => h) rfl (fun H' s => SqT.of (s _ _ (s6 _ _ ha))) hD2 ?_ ?_ gName_m tTestIxC_m
          · rintro i v ys B1 B2 R R2 hi s7 hP hDB ⟨rfl, hv⟩ hR hR2
            obtain ⟨ρ, hρ, ok, t, rfl, ht⟩ := hx.get hv
            have ht := s7 _ _ (s6 _ _ ht)
            refine ⟨wipe_set, ?_⟩
            walk_at "rdn"
            refine q_ixT (SqT.of ht) RowD.at0 ?_
            walk_at "rdn"
            rw [RowD.kind_sent]
            refine ⟨hR _ _ (Same.refl _) (fun hb => by rw [nSent_step hρ, hb]; exact hP), fun hb => ?_⟩
            walk_at "rdn"
            exact hR2 _ _ (Same.refl _) (by rw [nSent_step hρ, hb, List.length_append, hP]; rfl)
          · intro ys B2 s7 hP hD4
            walk_at "rdn"
            rw [List.take_of_length_le (by omega)] at hP
            have hsn := hg.snt
            exact R_of (k _ (s1.trans (s6.trans s7))) (by rw [decide_eq_true (by omega)])
    · walk_at "rdn"
      refine r_is_list rfl (ht := .base .non) (hk := ka_f kt_NoneType_list (ka_f kt_NoneType_tuple ka_nil)) ?_
      intro H1 s1
      walk_at "rdn"
      exact k _ s1
    · walk_at "rdn"
      intro H1 s1
      have ha := s1 _ _ ha
      have ht := s1 _ _ ht
      walk_at "rdn"
      refine q_seqL ?_
      walk_at "rdn"
      intro D hD
      refine lc_itemsB (fun _ => false) (SqL.of ha) (by simp) hD (fun x hx H2 R s2 hR => ?_) (fun H2 s2 e => ?_)
      · rw [List.mem_singleton.mp hx]
        walk_at "rdn"
        intro H3 s3
        exact hR _ s3
      · walk_at "rdn"
        refine q_ifs (fun hf => absurd hf (by simp)) (fun _ => ?_)
        walk_at "rdn"
        exact k _ (s1.trans s2)
theorem ok_check_history (T : Tx K mg) : FnOk P w K mg base (L2.CX P w) 6 T.f_check_history T.d_check_history ["members", "rows"] (sp_check_history K T.C_NoHistory) := by
  refine T.F_check_history.okX sc_check_history (fun vs H Q E h => ?_) (fun cdv A outer s H vs Q E hr h => ?_)
  · rcases h with ⟨a, xs, rs, M, rfl, h2, h5, ha, hx, hg, k⟩ | ⟨M, rfl, h2, h5, k⟩ | ⟨a, t, M, rfl, h2, h5, ha, ht, k⟩
    all_goals rfl
  · have hu := hu_of hr
    refine ⟨_, (pss_one (ps_if (pt_not (pt_val (pe_callSD (ok_is_history (P := P) T) (hr.mono (by decide)) rfl T.m_is_history T.k_is_history T.b_is_history .nil (fun σ => passX (takes_of rfl rfl rfl rfl) σ) (pa_cons (pv 0) (pa_cons (pv 1) (pa_nil))))))
      (pss_one (ps_raiseX rfl (takes_of rfl rfl rfl rfl) ‹PF P› T.ox_NoHistory T.z_super (hr.mono (by decide)) rfl T.g_NoHistory (pv 1))) pss_nil)), ?_⟩
    rcases h with ⟨a, xs, rs, M, rfl, h2, h5, ha, hx, hg, k⟩ | ⟨M, rfl, h2, h5, k⟩ | ⟨a, t, M, rfl, h2, h5, ha, ht, k⟩
    · walk_at "rdn"
      intro H1 s1
      walk_at "rdn"
      exact k _ s1
    · walk_at "rdn"
      intro H1 s1
      walk_at "rdn"
      intro d hd
      exact k d _ (s1.trans (Same.new hd)) upd_same
    · walk_at "rdn"
      intro H1 s1
      walk_at "rdn"
      intro d hd
      exact k d _ (s1.trans (Same.new hd)) upd_same
theorem ok_alike_to (T : Tx K mg) : FnOk P w K mg base (L2.CX P w) 7 T.f_alike_to T.d_alike_to ["members", "rows", "others"] (sp_alike_to K T.C_NoHistory) := by
  refine T.F_alike_to.okX sc_alike_to (fun vs H Q E h => ?_) (fun cdv A outer s H vs Q E hr h => ?_)
  · rcases h with ⟨a, b, xs, ys, rs, os, M, rfl, h2, h5, ha, hx, hg, hb, hy, hg2, k⟩ | ⟨M, y, rfl, h2, h5, k⟩ | ⟨a, t, M, y, rfl, h2, h5, ha, ht, k⟩ | ⟨a, b, t, xs, rs, M, rfl, h2, h5, ha, hx, hg, hb, ht, k⟩
    all_goals rfl
  · have hu := hu_of hr
    refine ⟨_, (pss_cons (ps_expr (pe_callSD (ok_check_history (P := P) T) (hr.mono (by decide)) rfl T.m_check_history T.k_check_history T.b_check_history .nil (fun σ => passX (takes_of rfl rfl rfl rfl) σ) (pa_cons (pv 0) (pa_cons (pv 1) (pa_nil)))))
      (pss_cons (ps_expr (pe_callSD (ok_check_history (P := P) T) (hr.mono (by decide)) rfl T.m_check_history T.k_check_history T.b_check_history .nil (fun σ => passX (takes_of rfl rfl rfl rfl) σ) (pa_cons (pv 0) (pa_cons (pv 2) (pa_nil)))))
      (pss_one (ps_ret (pe_lc (own := [("member", 3)]) (g := gName 3) rfl sc_alike_to.nd (pi_range1 rfl T.z_range (pa_cons (pv 0) (pa_nil))) (blkOk_by (own := [("member", 3)]) (N := ["members", "rows", "others", "member"]) (sc := defScope s_alike_to) (by decide +kernel)) (fun _ _ _ _ _ => (pg_name (i := 3) sc_alike_to.nd rfl (Or.inl rfl))) (fun _ _ _ _ _ => (pts_one (pt_cmpR (ko_eqD (K := K) rfl hr.units) (pe_call (ok_own_rows (P := P) T) (hr.mono (by decide)) rfl T.m_own_rows T.k_own_rows T.b_own_rows .nil pass0 (pa_cons (pv 1) (pa_cons (pv 3) (pa_nil)))) (pe_call (ok_own_rows (P := P) T) (hr.mono (by decide)) rfl T.m_own_rows T.k_own_rows T.b_own_rows .nil pass0 (pa_cons (pv 2) (pa_cons (pv 3) (pa_nil)))) (nomark _)))) (fun _ _ _ _ _ => (pv 3))))))), ?_⟩
    rcases h with ⟨a, b, xs, ys, rs, os, M, rfl, h2, h5, ha, hx, hg, hb, hy, hg2, k⟩ | ⟨M, y, rfl, h2, h5, k⟩ | ⟨a, t, M, y, rfl, h2, h5, ha, ht, k⟩ | ⟨a, b, t, xs, rs, M, rfl, h2, h5, ha, hx, hg, hb, ht, k⟩
    · have lx := hx.len
      have ly := hy.len
      have g1 := hg.len
      have g2 := hg2.len
      walk_at "rdn"
      intro H1 s1
      walk_at "rdn"
      refine r_check_history_1 rfl (h2 := h2) (h5 := h5) (ha := hb.up s1) (hx := RowAt.all hy s1) (hg := hg2) ?_
      intro H2 s2
      have S := s1.trans s2
      have ha := ha.up S
      have hb := hb.up S
      have hx := RowAt.all hx S
      have hy := RowAt.all hy S
      walk_at "rdn"
      intro D hD
      refine lc_any walk_range (fun i ys _ => ys = (((List.range i).filter fun z => decide (own rs (z : Nat) = own os (z : Nat))).map fun z => ((z : Nat) : Int)).map V.int) (by omega) (fun _ _ _ _ h _ => h) (fun _ _ _ _ h => h) rfl (fun _ _ => trivial) hD ?_ ?_ gName_m ?_
      · rintro i v zs B1 B2 R R2 hi s6 hP hDB ⟨rfl, rfl⟩ hR hR2
        show gName _ (V.int (0 + (i : Int))) _ _ _
        rw [Int.zero_add]
        refine ⟨wipe_set, ?_⟩
        walk_at "rdn"
        refine r_own_rows rfl (ha := ha.up s6) (hx := RowAt.all hx s6) (hl := by omega) ?_
        intro l1 ys1 G1 t1 w1 w2
        walk_at "rdn"
        refine r_own_rows rfl (ha := hb.up (s6.trans t1)) (hx := RowAt.all hy (s6.trans t1)) (hl := by omega) ?_
        intro l2 ys2 G2 t2 w3 w4
        refine q_eqRows (SqL.of (t2 _ _ w1)) (RowAt.all w2 t2) (SqL.of w3) w4 ?_
        walk_at "rdn"
        have st : ∀ b : Bool, decide (own rs (i : Nat) = own os (i : Nat)) = b → (List.range (i + 1)).filter (fun z => decide (own rs (z : Nat) = own os (z : Nat))) = (List.range i).filter (fun z => decide (own rs (z : Nat) = own os (z : Nat))) ++ (if b = true then [i] else []) := fun b hb => by
          rw [List.range_succ, List.filter_append]
          congr 1
          cases b <;> simp [hb]
        refine ⟨hR _ _ (t1.trans t2) (fun hb => by rw [st _ hb, hP]; simp), fun hb => ?_⟩
        walk_at "rdn"
        exact hR2 _ _ (t1.trans t2) (by rw [st _ hb, hP]; simp)
      · intro zs B1 s6 hP hD3
        walk_at "rdn"
        exact k D B1 (S.trans s6) (by rw [hD3, hP]; rfl)
      · exact tEqOwn_m
    · walk_at "rdn"
      intro d H1 s1 hd
      exact k d H1 s1 hd
    · walk_at "rdn"
      intro d H1 s1 hd
      exact k d H1 s1 hd
    · walk_at "rdn"
      intro H1 s1
      walk_at "rdn"
      intro d H2 s2 hd
      exact k d H2 (s1.trans s2) hd
theorem ok_law_cell_at (T : Tx K mg) : FnOk P w K mg base CX0 1 T.f_law_cell_at T.d_law_cell_at ["script", "k"] (sp_law_cell_at K) := by
  refine T.F_law_cell_at.ok sc_law_cell_at (fun vs H Q E h => ?_) (fun cdv A outer s H vs Q E hr h => ?_)
  · rcases h with ⟨a, ns, n, rfl, hs, h0, hl, k⟩
    all_goals rfl
  · have hu := hu_of hr
    refine ⟨_, (pss_cons (ps_if (pt_cmpR op_lt (pv 1) (pe_callB (id := "len") (kx_len (K := K) rfl) (by rfl) T.z_len (by decide +kernel) (pa_cons (pv 0) (pa_nil))) (nomark _))
      (pss_one (ps_ret (pe_ix (ki_list (K := K) rfl) (pv 0) (pv 1) (fun _ _ => rfl)))) pss_nil)
      (pss_one (ps_ret pe_int))), ?_⟩
    rcases h with ⟨a, ns, n, rfl, hs, h0, hl, k⟩
    walk_at "rdn"
    refine q_ifx (fun hc => ?_) (fun hc => ?_)
    · obtain ⟨j, rfl⟩ := Int.eq_ofNat_of_zero_le h0
      simp only [List.length_map] at hc
      have hj : j < ns.length := by omega
      walk_at "rdn"
      exact k _
    · walk_at "rdn"
      exact k _
theorem ok_law_take (T : Tx K mg) : FnOk P w K mg base CX0 1 T.f_law_take T.d_law_take ["pool", "size"] (sp_law_take ) := by
  refine T.F_law_take.ok sc_law_take (fun vs H Q E h => ?_) (fun cdv A outer s H vs Q E hr h => ?_)
  · rcases h with ⟨p, n, m, rfl, hp, hm, hb, k⟩
    all_goals rfl
  · have hu := hu_of hr
    refine ⟨_, (pss_cons (ps_set (i := 2) sc_law_take.nd rfl (Or.inl rfl) (pe_op op_mod (pe_ix (ki_list (K := K) rfl) (pv 0) pe_int (fun _ _ => rfl)) (pv 1)))
      (pss_cons (ps_asg (pe_op op_fdivW (pe_ix (ki_list (K := K) rfl) (pv 0) pe_int (fun _ _ => rfl)) (pv 1)) (pg_sub (pv 0) pe_int set_list))
      (pss_one (ps_ret (pv 2))))), ?_⟩
    rcases h with ⟨p, n, m, rfl, hp, hm, hb, k⟩
    walk_at "rd"
    exact k
theorem ok_law_pool (T : Tx K mg) : FnOk P w K mg base CX0 1 T.f_law_pool T.d_law_pool ["cell"] (sp_law_pool ) := by
  refine T.F_law_pool.ok sc_law_pool (fun vs H Q E h => ?_) (fun cdv A outer s H vs Q E hr h => ?_)
  · rcases h with ⟨cell, rfl, k⟩
    all_goals rfl
  · have hu := hu_of hr
    refine ⟨_, (pss_cons (ps_if (pt_cmpR op_ge (pv 0) (pe_op op_pow pe_int pe_int) (nomark _))
      (pss_one (ps_ret (pe_lst (pa_cons (pv 0) (pa_nil))))) pss_nil)
      (pss_cons (ps_set (i := 1) sc_law_pool.nd rfl (Or.inl rfl) pe_int)
      (pss_cons (ps_for PassesOwn.never rfl (pi_range1 rfl T.z_range (pa_cons pe_int (pa_nil))) (pg_name (i := 2) sc_law_pool.nd rfl (Or.inl rfl))
      (pss_cons (ps_set (i := 3) sc_law_pool.nd rfl (Or.inl rfl) (pe_op op_mod (pe_op op_pow (pe_op op_add (pe_op op_add (pe_op op_mul (pe_op op_mod (pv 0) pe_int) pe_int) (pe_op op_mul pe_int (pv 2))) pe_int) pe_int) pe_int))
      (pss_one (ps_set (i := 1) sc_law_pool.nd rfl (Or.inl rfl) (pe_op op_add (pe_op op_mul (pv 1) pe_int) (pe_op op_mod (pe_op op_pow (pe_op op_add (pe_op op_mul (pv 3) pe_int) (pv 2)) pe_int) pe_int))))))
      (pss_one (ps_ret (pe_lst (pa_cons (pv 1) (pa_nil)))))))), ?_⟩
    rcases h with ⟨cell, rfl, k⟩
    walk_at "rd"
    refine q_ifx (fun hc => ?_) (fun hc => ?_)
    · walk_at "rd"
      have : (10:Int) ^ Int.toNat 18 = 1000000000000000000 := by decide
      exact k _ _ (by assumption) (by omega)
    · walk_at "rd"
      refine for_range (n := 9) (fun i σ H' => ∃ (z : Int) (a b : Option V), σ = [some (.int cell), some (.int z), a, b] ∧ 0 ≤ z ∧ H' = H) ⟨0, none, none, rfl, Int.le_refl _, rfl⟩ ?_ ?_
      · rintro i σ H' hi ⟨z, a, b, rfl, hz, rfl⟩
        walk_at "rd"
        exact ⟨_, _, _, rfl, by omega, rfl⟩
      · rintro σ H' ⟨z, a, b, rfl, hz, rfl⟩
        walk_at "rd"
        exact k _ _ (by assumption) hz
theorem ok_law_model (T : Tx K mg) : FnOk P w K mg base CX0 1 T.f_law_model T.d_law_model ["members"] (sp_law_model ) := by
  refine T.F_law_model.ok sc_law_model (fun vs H Q E h => ?_) (fun cdv A outer s H vs Q E hr h => ?_)
  · rcases h with ⟨M, rfl, h2, h5, k⟩
    all_goals rfl
  · have hu := hu_of hr
    refine ⟨_, (pss_cons (ps_setLc (i := 1) (own := [("k", 3)]) (g := gName 3) (tt := tYes) rfl sc_law_model.nd rfl rfl (sw_true rfl rfl rfl (by decide +kernel)) (pi_range1 rfl T.z_range (pa_cons (pv 0) (pa_nil))) (blkOk_by (own := [("k", 3)]) (N := ["members", "got", "later", "k"]) (sc := defScope s_law_model) (by decide +kernel)) (fun _ _ _ _ _ => (pg_name (i := 3) sc_law_model.nd rfl (Or.inl rfl))) (fun _ _ _ _ _ => pts_nil) (fun _ _ _ _ _ => (pe_lst pa_nil)))
      (pss_cons (ps_setLc (i := 2) (own := [("k", 3)]) (g := gName 3) (tt := tYes) rfl sc_law_model.nd rfl rfl (sw_true rfl rfl rfl (by decide +kernel)) (pi_range1 rfl T.z_range (pa_cons (pv 0) (pa_nil))) (blkOk_by (own := [("k", 3)]) (N := ["members", "got", "later", "k"]) (sc := defScope s_law_model) (by decide +kernel)) (fun _ _ _ _ _ => (pg_name (i := 3) sc_law_model.nd rfl (Or.inl rfl))) (fun _ _ _ _ _ => pts_nil) (fun _ _ _ _ _ => (pe_lst pa_nil)))
      (pss_one (ps_ret (pe_disp (pps_cons pe_str pe_dnewT (pps_cons pe_str pe_dnewT (pps_cons pe_str (pv 1) (pps_cons pe_str (pv 2) pps_nil)))) (by rfl) (by rfl) (fun z => by cases z) (by decide)))))), ?_⟩
    rcases h with ⟨M, rfl, h2, h5, k⟩
    obtain ⟨n, rfl⟩ := Int.eq_ofNat_of_zero_le (show (0 : Int) ≤ M by omega)
    walk_at "rdn"
    intro D hD
    refine lc_any walk_range (fun i ys H' => Empt D H i ys H') (by simp; omega) (fun _ _ _ _ h s => h.same s) (fun _ _ _ _ h => h.put) (Empt.zero) (fun _ _ => trivial) hD ?_ ?_ gName_m tYes_m
    · rintro i v ys B1 B2 R R2 hi s6 hP hDB ⟨rfl, rfl⟩ hR hR2
      refine ⟨wipe_set, q_yes ⟨hR true _ (Same.refl _) (fun h => nomatch h), fun _ => ?_⟩⟩
      walk_at "rdn"
      intro z hz
      exact hR2 _ _ (Same.new hz) (hP.snoc (Same.new hz) (s6.free hz) hz upd_same (ne_of_none hDB hz).symm)
    · intro ys H1 s1 hP1 hD1
      walk_at "rdn"
      intro D2 hD2
      refine lc_any walk_range (fun i ys H' => Empt D2 H1 i ys H') (by simp; omega) (fun _ _ _ _ h s => h.same s) (fun _ _ _ _ h => h.put) (Empt.zero) (fun _ _ => trivial) hD2 ?_ ?_ gName_m tYes_m
      · rintro i v ys B1 B2 R R2 hi s6 hP hDB ⟨rfl, rfl⟩ hR hR2
        refine ⟨wipe_set, q_yes ⟨hR true _ (Same.refl _) (fun h => nomatch h), fun _ => ?_⟩⟩
        walk_at "rdn"
        intro z hz
        exact hR2 _ _ (Same.new hz) (hP.snoc (Same.new hz) (s6.free hz) hz upd_same (ne_of_none hDB hz).symm)
      · intro ys2 H2 s2 hP2 hD3
        walk_at "rdn"
        intro p hp
        walk_at "rdn"
        intro c hc
        walk_at "rdn"
        intro wd hwd
        walk_at "rdn"
        refine q_kvs [(.inr "causes", .ref c), (.inr "words", .ref wd), (.inr "got", .ref D), (.inr "told", .ref D2)] (by walk_at "lk") rfl (by simp) ?_
        rw [mergeK4 (by decide +kernel) (by decide +kernel) (by decide +kernel) (by decide +kernel) (by decide +kernel) (by decide +kernel)]
        have m1 : c ≠ wd := by walk_at "ne"
        have m2 : p ≠ c := by walk_at "ne"
        have m3 : p ≠ wd := by walk_at "ne"
        obtain ⟨as, rfl, la, na, pa⟩ := hP1
        obtain ⟨bs, rfl, lb, nb, pb⟩ := hP2
        have S : Same H2 (upd (upd (upd (upd H2 p (.dK [])) c (.dT [])) wd (.dT [])) p (.dK [(.inr "causes", .ref c), (.inr "words", .ref wd), (.inr "got", .ref D), (.inr "told", .ref D2)])) := Same.snew (((Same.new hp).trans (Same.new hc)).trans (Same.new hwd)) hp
        have w1 : (upd (upd (upd (upd H2 p (.dK [])) c (.dT [])) wd (.dT [])) p (.dK [(.inr "causes", .ref c), (.inr "words", .ref wd), (.inr "got", .ref D), (.inr "told", .ref D2)])) c = some (.dT []) := by walk_at "lk"
        have w2 : (upd (upd (upd (upd H2 p (.dK [])) c (.dT [])) wd (.dT [])) p (.dK [(.inr "causes", .ref c), (.inr "words", .ref wd), (.inr "got", .ref D), (.inr "told", .ref D2)])) wd = some (.dT []) := by walk_at "lk"
        have w3 : (upd (upd (upd (upd H2 p (.dK [])) c (.dT [])) wd (.dT [])) p (.dK [(.inr "causes", .ref c), (.inr "words", .ref wd), (.inr "got", .ref D), (.inr "told", .ref D2)])) p = some (.dK [(.inr "causes", .ref c), (.inr "words", .ref wd), (.inr "got", .ref D), (.inr "told", .ref D2)]) := upd_same
        refine k ⟨p, c, wd, D, D2, as, bs, [], []⟩ _ (s1.trans (s2.trans S)) (MdlAt.new (H := H) w3 w1 w2 m1 (S _ _ (s2 _ _ hD1)) (S _ _ hD3) (by simpa using la) (by simpa using lb) (fun a ha => S _ _ (s2 _ _ (pa a ha).1)) (fun a ha => S _ _ (pb a ha).1) ?_) rfl ((s1.trans s2).free (upd_free hc)) ((s1.trans s2).free (upd_free (upd_free hwd))) (fun a ha => (pa a ha).2.1) (fun a ha => s1.free (pb a ha).2.1)
        have nDD : D ≠ D2 := ne_of_none hD1 hD2
        refine List.nodup_append.mpr ⟨by simp [nDD], List.nodup_append.mpr ⟨na, nb, fun x hx y hy e => ?_⟩, fun x hx y hy e => ?_⟩
        · have z1 := (pa x hx).1
          rw [e, (pb y hy).2.1] at z1
          cases z1
        · simp only [List.mem_cons, List.not_mem_nil, or_false] at hx
          rcases List.mem_append.mp hy with hy | hy
          · rcases hx with rfl | rfl
            · exact (pa y hy).2.2 e.symm
            · have z1 := (pa y hy).1
              rw [← e, hD2] at z1
              cases z1
          · rcases hx with rfl | rfl
            · have z1 := (pb y hy).2.1
              rw [← e, hD1] at z1
              cases z1
            · exact (pb y hy).2.2 e.symm
theorem ok_law_otherwise (T : Tx K mg) : FnOk P w K mg base CX0 1 T.f_law_otherwise T.d_law_otherwise ["model", "member", "place", "ident"] (sp_law_otherwise K) := by
  refine T.F_law_otherwise.ok sc_law_otherwise (fun vs H Q E h => ?_) (fun cdv A outer s H vs Q E hr h => ?_)
  · rcases h with ⟨μ, M, B, i, m, p, c, rfl, hm, h5, hB, hi, hp, k⟩
    all_goals rfl
  · have hu := hu_of hr
    refine ⟨_, (pss_cons (ps_for PassesOwn.never rfl (pi_range1 rfl T.z_range (pa_cons (pe_callB (id := "len") (kx_len (K := K) rfl) (by rfl) T.z_len (by decide +kernel) (pa_cons (pe_dget (room1 hr) (pv 0) pe_str (fun _ _ => rfl)) (pa_nil))) (pa_nil))) (pg_name (i := 4) sc_law_otherwise.nd rfl (Or.inl rfl))
      (pss_cons (ps_set (i := 5) sc_law_otherwise.nd rfl (Or.inl rfl) (pe_ix (ki_list (K := K) rfl) (pe_dget (room1 hr) (pv 0) pe_str (fun _ _ => rfl)) (pv 4) (fun _ _ => rfl)))
      (pss_cons (ps_if (PW.pt (pw_and (pt_cmpR op_ne (pv 4) (pv 1) (nomark _)) (pw_and (pt_cmpR op_le (pv 2) (pe_callB (id := "len") (kx_len (K := K) rfl) (by rfl) T.z_len (by decide +kernel) (pa_cons (pv 5) (pa_nil))) (nomark _)) (pw_and1 (pt_cmpR (ko_neD (K := K) rfl hr.units) (pe_ix (ki_list (K := K) rfl) (pv 5) (pe_op op_sub (pv 2) pe_int) (fun _ _ => rfl)) (pv 3) (nomark _))))))
      (pss_one (ps_ret pe_bl)) pss_nil)
      (pss_one (ps_if (PW.pt (pw_and (pt_cmpR op_ne (pv 4) (pv 1) (nomark _)) (pw_and (pt_cmpR (ko_inD (K := K) rfl (room65 hr)) (pv 3) (pv 5) rfl) (pw_and1 (pt_cmpR op_ne (pe_bm PySem.F.plainAttrs_list PySem.F.slot_list_index PySem.F.type_list_index (kmt_indexD (K := K) rfl (room65 hr)) (pv 5) (pa_cons (pv 3) (pa_nil))) (pe_op op_sub (pv 2) pe_int) (nomark _))))))
      (pss_one (ps_ret pe_bl)) pss_nil)))))
      (pss_one (ps_ret pe_bl))), ?_⟩
    rcases h with ⟨μ, M, B, i, m, p, c, rfl, hm, h5, hB, hi, hp, k⟩
    have hmd := hm.md
    have htl := hm.tl
    have hlen : (μ.ta.map V.ref).length = μ.ta.length := List.length_map ..
    have htll := hm.tll
    walk_at "rdn"
    rw [hlen, Int.toNat_natCast]
    refine for_range (fun j σ H' => (∃ u v : Option V, σ = [some (.ref μ.md), some (.int m), some (.int p), some (.ref i), u, v]) ∧ H' = H) ⟨⟨none, none, rfl⟩, rfl⟩ ?_ ?_
    · rintro j σ H' hj ⟨⟨u, v, rfl⟩, rfl⟩
      rw [Int.zero_add]
      obtain ⟨a, ha⟩ : ∃ a, μ.ta[j]? = some a := ⟨_, List.getElem?_eq_getElem hj⟩
      obtain ⟨xs, ids, e1, e2, e3⟩ := hm.ta a (List.mem_of_getElem? ha)
      have hat : atI (μ.ta.map V.ref) (j : Int) = some (.ref a) := atI_nat (by rw [List.getElem?_map, ha]; rfl)
      by_cases hjm : (j : Int) = m
      · walk_at "rdn"
        exact ⟨⟨_, _, rfl⟩, rfl⟩
      · with_reducible refine q_gname ?_
        refine q_seqC (fun σ' H2 => σ' = [some (.ref μ.md), some (.int m), some (.int p), some (.ref i), some (.int j), some (.ref a)] ∧ H2 = H') (fun N k1 => ?_) ?_
        · walk_at "rdn"
          exact k1 _ _ ⟨rfl, rfl⟩
        rintro σ H2 ⟨rfl, rfl⟩
        refine q_seqC (fun σ' H3 => σ' = [some (.ref μ.md), some (.int m), some (.int p), some (.ref i), some (.int j), some (.ref a)] ∧ H3 = H2) (fun N k1 => ?_) ?_
        · by_cases hpl : p ≤ (xs.length : Int)
          · obtain ⟨pp, hpp⟩ := Int.eq_ofNat_of_zero_le (show 0 ≤ p - 1 by omega)
            obtain ⟨x, hx⟩ : ∃ x, xs[pp]? = some x := ⟨_, List.getElem?_eq_getElem (by omega)⟩
            obtain ⟨c2, hc2, i2, rfl, hi2⟩ := e2.get hx
            have hxt : atI xs (p - 1) = some (.ref i2) := by rw [hpp]; exact atI_nat hx
            walk_at "rdn"
            refine q_nePair ⟨i2, rfl, hi2⟩ ⟨i, rfl, hi⟩ ?_
            walk_at "rdn"
            refine q_ifx (fun hx3 => ?_) (fun hx3 => ?_)
            · walk_at "rdn"
              exact k1 _ _ ⟨rfl, rfl⟩
            · walk_at "rdn"
              exact k _
          · walk_at "rdn"
            exact k1 _ _ ⟨rfl, rfl⟩
        rintro σ H3 ⟨rfl, rfl⟩
        by_cases hci : c ∈ ids
        · walk_at "rdn"
          refine q_inP (SqL.of e1) e2 ⟨i, rfl, hi⟩ ?_
          walk_at "rdn"
          refine q_index (SqL.of e1) e2 ⟨i, rfl, hi⟩ hci (fun jj => ?_)
          walk_at "rdn"
          refine q_ifx (fun hx3 => ?_) (fun hx3 => ?_)
          · walk_at "rdn"
            exact ⟨⟨_, _, rfl⟩, rfl⟩
          · walk_at "rdn"
            exact k _
        · walk_at "rdn"
          refine q_inP (SqL.of e1) e2 ⟨i, rfl, hi⟩ ?_
          walk_at "rdn"
          exact ⟨⟨_, _, rfl⟩, rfl⟩
    · rintro σ H' ⟨⟨u, v, rfl⟩, rfl⟩
      walk_at "rdn"
      exact k _
theorem ok_law_has (T : Tx K mg) : FnOk P w K mg base CX0 1 T.f_law_has T.d_law_has ["model", "rows", "ident"] (sp_law_has K) := by
  refine T.F_law_has.ok sc_law_has (fun vs H Q E h => ?_) (fun cdv A outer s H vs Q E hr h => ?_)
  · rcases h with ⟨μ, M, B, i, r, ys, ids, c, rfl, hm, hr, hy, hi, hc, k⟩
    all_goals rfl
  · have hu := hu_of hr
    refine ⟨_, (pss_cons (ps_for PassesOwn.never rfl (kpi_list (K := K) rfl (pe_dget (room1 hr) (pe_dget (room1 hr) (pv 0) pe_str (fun _ _ => rfl)) (pv 2) (fun _ _ => rfl))) (pg_name (i := 3) sc_law_has.nd rfl (Or.inl rfl))
      (pss_one (ps_if (pt_cmpR (ko_notInD (K := K) rfl (room65 hr)) (pv 3) (pv 1) rfl)
      (pss_one (ps_ret pe_bl)) pss_nil)))
      (pss_one (ps_ret pe_bl))), ?_⟩
    rcases h with ⟨μ, M, B, i, r, ys, ids, c, rfl, hm, hr, hy, hi, hc, k⟩
    have hmd := hm.md
    have hcc := hm.c
    obtain ⟨a, ha, hv⟩ := zk_some hm.kl hc
    obtain ⟨xs, ids2, e1, e2, e3⟩ := hm.cl a ha
    walk_at "rdn"
    refine q_dTs hcc (PairAt.key hi) hv ?_
    walk_at "rdn"
    refine for_list (K := K) (a := a) (xs := xs) (fun i' σ H' => (∃ u : Option V, σ = [some (.ref μ.md), some (.ref r), some (.ref i), u]) ∧ H' = H) ⟨⟨none, rfl⟩, rfl⟩ (fun i σ H' _ h => by rw [h.2]; exact SqL.of e1) ?_ ?_
    · rintro j x σ H' hx ⟨⟨u, rfl⟩, rfl⟩
      obtain ⟨c2, hc2, hP⟩ := e2.get hx
      walk_at "rdn"
      refine q_notInP (SqL.of hr) hy hP ?_
      walk_at "rdn"
      refine q_ifx (fun hx3 => ?_) (fun hx3 => ?_)
      · walk_at "rdn"
        exact ⟨⟨_, rfl⟩, rfl⟩
      · walk_at "rdn"
        exact k _
    · rintro σ H' ⟨⟨u, rfl⟩, rfl⟩
      walk_at "rdn"
      exact k _
theorem ok_law_why_got (T : Tx K mg) : FnOk P w K mg base CX0 2 T.f_law_why_got T.d_law_why_got ["model", "member", "ident"] (sp_law_why_got K) := by
  refine T.F_law_why_got.ok sc_law_why_got (fun vs H Q E h => ?_) (fun cdv A outer s H vs Q E hr h => ?_)
  · rcases h with ⟨μ, M, B, i, m, c, rfl, hm, h5, h0, h1, hi, k⟩
    all_goals rfl
  · have hu := hu_of hr
    refine ⟨_, (pss_cons (ps_if (pt_cmpR op_eq (pe_ix (ki_tup (K := K) rfl) (pv 2) pe_int (fun _ _ => rfl)) (pv 1) (nomark _))
      (pss_one (ps_ret pe_str)) pss_nil)
      (pss_cons (ps_if (pt_cmp (pc_dnotin (room1 hr) (pv 2) (pe_dget (room1 hr) (pv 0) pe_str (fun _ _ => rfl))))
      (pss_one (ps_ret pe_str)) pss_nil)
      (pss_cons (ps_set (i := 3) sc_law_why_got.nd rfl (Or.inl rfl) (pe_ix (ki_list (K := K) rfl) (pe_dget (room1 hr) (pv 0) pe_str (fun _ _ => rfl)) (pv 1) (fun _ _ => rfl)))
      (pss_cons (ps_if (pt_cmpR (ko_inD (K := K) rfl (room65 hr)) (pv 2) (pv 3) rfl)
      (pss_one (ps_ret pe_str)) pss_nil)
      (pss_one (ps_ret (pe_ifExp (pt_val (pe_call (ok_law_has (P := P) T) (hr.mono (by decide)) rfl T.m_law_has T.k_law_has T.b_law_has .nil pass0 (pa_cons (pv 0) (pa_cons (pv 3) (pa_cons (pv 2) (pa_nil)))))) pe_non pe_str))))))), ?_⟩
    rcases h with ⟨μ, M, B, i, m, c, rfl, hm, h5, h0, h1, hi, k⟩
    have hmd := hm.md
    have hcc := hm.c
    have hgg := hm.g
    have hgl := hm.gl
    obtain ⟨mm, rfl⟩ := Int.eq_ofNat_of_zero_le h0
    obtain ⟨a, ha⟩ : ∃ a, μ.ga[mm]? = some a := ⟨_, List.getElem?_eq_getElem (by omega)⟩
    obtain ⟨xs, ids, e1, e2, e3, e4⟩ := hm.ga a (List.mem_of_getElem? ha)
    have hat : atI (μ.ga.map V.ref) (mm : Int) = some (.ref a) := atI_nat (by rw [List.getElem?_map, ha]; rfl)
    walk_at "rdn"
    refine q_ifx (fun hx => ?_) (fun hx => ?_)
    · walk_at "rdn"
      exact k _ (.inr ⟨_, rfl⟩) (fun w => by cases w)
    · walk_at "rdn"
      refine q_dT hcc (PairAt.key hi) ?_
      rw [zk_isSome hm.kl]
      by_cases hck : c ∈ μ.ks
      · rw [decide_eq_true hck]
        walk_at "rdn"
        refine q_inP (SqL.of e1) e2 ⟨i, rfl, hi⟩ ?_
        walk_at "rdn"
        refine q_ifx (fun hx2 => ?_) (fun hx2 => ?_)
        · walk_at "rdn"
          exact k _ (.inr ⟨_, rfl⟩) (fun w => by cases w)
        · walk_at "rdn"
          intro b
          walk_at "rdn"
          refine q_ifs (fun hx3 => ?_) (fun hx3 => ?_)
          · walk_at "rdn"
            exact k _ (.inl rfl) (fun _ => hck)
          · walk_at "rdn"
            exact k _ (.inr ⟨_, rfl⟩) (fun w => by cases w)
      · rw [decide_eq_false hck]
        walk_at "rdn"
        exact k _ (.inr ⟨_, rfl⟩) (fun w => by cases w)
theorem ok_law_why (T : Tx K mg) : FnOk P w K mg base CX0 3 T.f_law_why T.d_law_why ["model", "row"] (sp_law_why K) := by
  refine T.F_law_why.ok sc_law_why (fun vs H Q E h => ?_) (fun cdv A outer s H vs Q E hr h => ?_)
  · rcases h with ⟨μ, M, B, t, ρ, rfl, hm, h5, hB, ht, h0, h1, k⟩
    all_goals rfl
  · have hu := hu_of hr
    refine ⟨_, (pss_cons (ps_set (i := 2) sc_law_why.nd rfl (Or.inl rfl) (pe_ix (ki_tup (K := K) rfl) (pv 1) pe_int (fun _ _ => rfl)))
      (pss_cons (ps_set (i := 3) sc_law_why.nd rfl (Or.inl rfl) (pe_slice (ks_tup (K := K) rfl) (pv 1) (po_some (pe_un un_neg pe_int)) po_none))
      (pss_cons (ps_if (pt_cmpR op_eq (pe_ix (ki_tup (K := K) rfl) (pv 1) pe_int (fun _ _ => rfl)) pe_str (nomark _))
      (pss_one (ps_ret pe_non)) pss_nil)
      (pss_cons (ps_if (pt_cmpR op_eq (pe_ix (ki_tup (K := K) rfl) (pv 1) pe_int (fun _ _ => rfl)) pe_str (nomark _))
      (pss_one (ps_ret (pe_call (ok_law_why_got (P := P) T) (hr.mono (by decide)) rfl T.m_law_why_got T.k_law_why_got T.b_law_why_got .nil pass0 (pa_cons (pv 0) (pa_cons (pv 2) (pa_cons (pv 3) (pa_nil))))))) pss_nil)
      (pss_cons (ps_set (i := 4) sc_law_why.nd rfl (Or.inl rfl) (pe_ix (ki_list (K := K) rfl) (pe_dget (room1 hr) (pv 0) pe_str (fun _ _ => rfl)) (pv 2) (fun _ _ => rfl)))
      (pss_cons (ps_if (pt_cmpR op_ne (pe_ix (ki_tup (K := K) rfl) (pv 1) pe_int (fun _ _ => rfl)) (pe_op op_add (pe_callB (id := "len") (kx_len (K := K) rfl) (by rfl) T.z_len (by decide +kernel) (pa_cons (pv 4) (pa_nil))) pe_int) (nomark _))
      (pss_one (ps_ret pe_str)) pss_nil)
      (pss_cons (ps_if (pt_cmpR (ko_notInD (K := K) rfl (room65 hr)) (pv 3) (pe_ix (ki_list (K := K) rfl) (pe_dget (room1 hr) (pv 0) pe_str (fun _ _ => rfl)) (pv 2) (fun _ _ => rfl)) rfl)
      (pss_one (ps_ret pe_str)) pss_nil)
      (pss_cons (ps_if (pt_cmpR (ko_inD (K := K) rfl (room65 hr)) (pv 3) (pv 4) rfl)
      (pss_one (ps_ret pe_str)) pss_nil)
      (pss_cons (ps_if (pt_val (pe_call (ok_law_otherwise (P := P) T) (hr.mono (by decide)) rfl T.m_law_otherwise T.k_law_otherwise T.b_law_otherwise .nil pass0 (pa_cons (pv 0) (pa_cons (pv 2) (pa_cons (pe_ix (ki_tup (K := K) rfl) (pv 1) pe_int (fun _ _ => rfl)) (pa_cons (pv 3) (pa_nil)))))))
      (pss_one (ps_ret pe_str)) pss_nil)
      (pss_one (ps_ret (pe_ifExp (pt_val (pe_call (ok_law_has (P := P) T) (hr.mono (by decide)) rfl T.m_law_has T.k_law_has T.b_law_has .nil pass0 (pa_cons (pv 0) (pa_cons (pv 4) (pa_cons (pv 3) (pa_nil)))))) pe_non pe_str)))))))))))), ?_⟩
    rcases h with ⟨μ, M, B, t, ρ, rfl, hm, h5, hB, ht, h0, h1, k⟩
    have n1 : ¬ (Str.ofString "got" = Str.ofString "sent") := by decide +kernel
    have n2 : ¬ (Str.ofString "told" = Str.ofString "sent") := by decide +kernel
    have n3 : ¬ (Str.ofString "told" = Str.ofString "got") := by decide +kernel
    have hmd := hm.md
    have htl := hm.tl
    have htll := hm.tll
    have hgg := hm.g
    have hgl := hm.gl
    cases ρ with
    | sent m w =>
      have ht : H t = some (.tup [.str "sent", .int m, .str w]) := ht
      walk_at "rdn"
      refine q_slTe (ys := [.int m, .str w]) (SqT.of ht) (show ¬ (HT.sIx 3 0 (some (-2)) = 0 ∧ HT.sIx 3 3 none = 3) by decide) rfl ?_
      intro d hd
      walk_at "rdn"
      exact k _ _ (Same.new hd) (.inl rfl) (fun _ _ _ _ e => by cases e) (fun _ => rfl)
    | got m s n =>
      have ht : H t = some (.tup [.str "got", .int m, .int s, .int n]) := ht
      have h0 : 0 ≤ m := h0
      have h1 : m ≤ M - 1 := h1
      walk_at "rdn"
      refine q_slTe (ys := [.int s, .int n]) (SqT.of ht) (show ¬ (HT.sIx 4 0 (some (-2)) = 0 ∧ HT.sIx 4 4 none = 4) by decide) rfl ?_
      intro d hd
      walk_at "rdn"
      refine r_law_why_got rfl (c := (s, n)) (hm := hm.same (Same.new hd)) (h5 := h5) (h0 := h0) (h1 := h1) (hi := upd_same) ?_
      intro v hv hk
      walk_at "rdn"
      exact k _ _ (Same.new hd) hv (fun e m' s' n' e2 => by cases e2; exact hk e) (fun w => by cases w)
    | told m p s n =>
      have ht : H t = some (.tup [.str "told", .int m, .int p, .int s, .int n]) := ht
      have h0 : 0 ≤ m := h0
      have h1 : m ≤ M - 1 := h1
      obtain ⟨mm, rfl⟩ := Int.eq_ofNat_of_zero_le h0
      obtain ⟨a, ha⟩ : ∃ a, μ.ga[mm]? = some a := ⟨_, List.getElem?_eq_getElem (by omega)⟩
      obtain ⟨xs, ids, e1, e2, e3, e4⟩ := hm.ga a (List.mem_of_getElem? ha)
      have hat : atI (μ.ga.map V.ref) (mm : Int) = some (.ref a) := atI_nat (by rw [List.getElem?_map, ha]; rfl)
      obtain ⟨b, hb⟩ : ∃ b, μ.ta[mm]? = some b := ⟨_, List.getElem?_eq_getElem (by omega)⟩
      obtain ⟨ys, js, f1, f2, f3⟩ := hm.ta b (List.mem_of_getElem? hb)
      have hbt : atI (μ.ta.map V.ref) (mm : Int) = some (.ref b) := atI_nat (by rw [List.getElem?_map, hb]; rfl)
      walk_at "rdn"
      refine q_slTe (ys := [.int s, .int n]) (SqT.of ht) (show ¬ (HT.sIx 5 0 (some (-2)) = 0 ∧ HT.sIx 5 5 none = 5) by decide) rfl ?_
      intro d hd
      have S : Same H (upd H d (.tup [.int s, .int n])) := Same.new hd
      have hm' := hm.same S
      have ed : upd H d (.tup [.int s, .int n]) d = some (.tup [.int s, .int n]) := upd_same
      have hmd := S _ _ hmd
      have htl := S _ _ htl
      have hgg := S _ _ hgg
      have ht := S _ _ ht
      have e1 := S _ _ e1
      have f1 := S _ _ f1
      have e2 := PairAt.all e2 S
      have f2 := PairAt.all f2 S
      generalize upd H d (.tup [.int s, .int n]) = G at S hm' ed hmd htl hgg ht e1 f1 e2 f2 ⊢
      by_cases hpl : p = (ys.length : Int) + 1
      · by_cases hmi : (s, n) ∈ ids
        · have hck := e4 _ hmi
          walk_at "rdn"
          refine q_notInP (c := (s, n)) (SqL.of e1) e2 ⟨d, rfl, ed⟩ ?_
          walk_at "rdn"
          refine q_inP (c := (s, n)) (SqL.of f1) f2 ⟨d, rfl, ed⟩ ?_
          by_cases hmj : (s, n) ∈ js
          · walk_at "rdn"
            exact k _ _ S (.inr ⟨_, rfl⟩) (fun w => by cases w) (fun w => by cases w)
          · walk_at "rdn"
            refine r_law_otherwise rfl (c := (s, n)) (hm := hm') (h5 := h5) (hB := hB) (hi := ed) (hp := by omega) ?_
            intro b
            walk_at "rdn"
            refine q_ifs (fun hx3 => ?_) (fun hx3 => ?_)
            · walk_at "rdn"
              exact k _ _ S (.inr ⟨_, rfl⟩) (fun w => by cases w) (fun w => by cases w)
            · walk_at "rdn"
              refine r_law_has rfl (c := (s, n)) (hm := hm') (hr := f1) (hy := f2) (hi := ed) (hc := hck) ?_
              intro b2
              walk_at "rdn"
              refine q_ifs (fun hx4 => ?_) (fun hx4 => ?_)
              · walk_at "rdn"
                exact k _ _ S (.inl rfl) (fun _ _ _ _ w => by cases w) (fun w => by cases w)
              · walk_at "rdn"
                exact k _ _ S (.inr ⟨_, rfl⟩) (fun w => by cases w) (fun w => by cases w)
        · walk_at "rdn"
          refine q_notInP (c := (s, n)) (SqL.of e1) e2 ⟨d, rfl, ed⟩ ?_
          walk_at "rdn"
          exact k _ _ S (.inr ⟨_, rfl⟩) (fun w => by cases w) (fun w => by cases w)
      · walk_at "rdn"
        exact k _ _ S (.inr ⟨_, rfl⟩) (fun w => by cases w) (fun w => by cases w)
theorem ok_law_go (T : Tx K mg) : FnOk P w K mg base CX0 1 T.f_law_go T.d_law_go ["model", "row"] (sp_law_go K) := by
  refine T.F_law_go.ok sc_law_go (fun vs H Q E h => ?_) (fun cdv A outer s H vs Q E hr h => ?_)
  · rcases h with ⟨μ, M, B, t, ρ, rfl, hm, h5, hB, ht, hg, hk, k⟩
    all_goals rfl
  · have hu := hu_of hr
    refine ⟨_, (pss_cons (ps_set (i := 2) sc_law_go.nd rfl (Or.inr rfl) (pe_ix (ki_tup (K := K) rfl) (pv 1) pe_int (fun _ _ => rfl)))
      (pss_cons (ps_set (i := 3) sc_law_go.nd rfl (Or.inl rfl) (pe_slice (ks_tup (K := K) rfl) (pv 1) (po_some (pe_un un_neg pe_int)) po_none))
      (pss_cons (ps_if (pt_cmpR op_eq (pe_ix (ki_tup (K := K) rfl) (pv 1) pe_int (fun _ _ => rfl)) pe_str (nomark _))
      (pss_cons (ps_set (i := 3) sc_law_go.nd rfl (Or.inl rfl) (pe_tup (pa_cons (pv 2) (pa_cons (pe_op op_add pe_int (pe_callB (id := "len") (kx_len (K := K) rfl) (by rfl) T.z_len (by decide +kernel) (pa_cons (pe_lock (pe_lc (own := [("sent", 5)]) (g := gName 5) rfl sc_law_go.nd (pi_keys (pe_dget (room1 hr) (pv 0) pe_str (fun _ _ => rfl))) (blkOk_by (own := [("sent", 5)]) (N := ["model", "row", "member", "ident", "word", "sent"]) (sc := defScope s_law_go) (by decide +kernel)) (fun _ _ _ _ _ => (pg_name (i := 5) sc_law_go.nd rfl (Or.inl rfl))) (fun _ _ _ _ _ => (pts_one (pt_cmpR op_eq (pe_ix (ki_tup (K := K) rfl) (pv 5) pe_int (fun _ _ => rfl)) (pv 2) (nomark _)))) (fun _ _ _ _ _ => (pv 5)))) (pa_nil)))) (pa_nil)))))
      (pss_cons (ps_asg (pe_callTy (T := "list") (kx_list (K := K) rfl) (by rfl) T.z_list (by decide +kernel) (pa_cons (pe_ix (ki_list (K := K) rfl) (pe_dget (room1 hr) (pv 0) pe_str (fun _ _ => rfl)) (pv 2) (fun _ _ => rfl)) (pa_nil))) (pg_sub (pe_dget (room1 hr) (pv 0) pe_str (fun _ _ => rfl)) (pv 3) (set_dict (room1 hr))))
      (pss_one (ps_asg (pe_ix (ki_tup (K := K) rfl) (pv 1) pe_int (fun _ _ => rfl)) (pg_sub (pe_dget (room1 hr) (pv 0) pe_str (fun _ _ => rfl)) (pv 3) (set_dict (room1 hr))))))) pss_nil)
      (pss_cons (ps_set (i := 4) sc_law_go.nd rfl (Or.inl rfl) (pe_ifExp (pt_cmpR op_eq (pe_ix (ki_tup (K := K) rfl) (pv 1) pe_int (fun _ _ => rfl)) pe_str (nomark _)) pe_str pe_str))
      (pss_one (ps_expr (pe_bm PySem.F.plainAttrs_list PySem.F.slot_list_append PySem.F.type_list_append mt_append (pe_ix (ki_list (K := K) rfl) (pe_dget (room1 hr) (pv 0) (pv 4) (fun _ _ => rfl)) (pv 2) (fun _ _ => rfl)) (pa_cons (pv 3) (pa_nil))))))))), ?_⟩
    rcases h with ⟨μ, M, B, t, ρ, rfl, hm, h5, hB, ht, hg, hk, k⟩
    have hmd := hm.md
    have hcc := hm.c
    have hgg := hm.g
    have htl := hm.tl
    have hgl := hm.gl
    have htll := hm.tll
    have nmc := hm.nmc
    have nmw := hm.nmw
    have n1 : ¬ (Str.ofString "got" = Str.ofString "sent") := by decide +kernel
    have n2 : ¬ (Str.ofString "told" = Str.ofString "sent") := by decide +kernel
    have n3 : ¬ (Str.ofString "got" = Str.ofString "told") := by decide +kernel
    have n4 : ¬ (Str.ofString "sent" = Str.ofString "told") := by decide +kernel
    have hmem := hg.mem
    obtain ⟨mm, hmm⟩ := Int.eq_ofNat_of_zero_le hmem.1
    obtain ⟨a, ha⟩ : ∃ a, μ.ga[mm]? = some a := ⟨_, List.getElem?_eq_getElem (by omega)⟩
    obtain ⟨xs, ids, e1, e2, e3, e4⟩ := hm.ga a (List.mem_of_getElem? ha)
    have hat : atI (μ.ga.map V.ref) (mm : Int) = some (.ref a) := atI_nat (by rw [List.getElem?_map, ha]; rfl)
    obtain ⟨b, hb⟩ : ∃ b, μ.ta[mm]? = some b := ⟨_, List.getElem?_eq_getElem (by omega)⟩
    obtain ⟨ys, js, f1, f2, f3⟩ := hm.ta b (List.mem_of_getElem? hb)
    have hbt : atI (μ.ta.map V.ref) (mm : Int) = some (.ref b) := atI_nat (by rw [List.getElem?_map, hb]; rfl)
    cases ρ with
    | sent m w =>
      have ht : H t = some (.tup [.str "sent", .int m, .str w]) := ht
      have hmm : m = (mm : Int) := hmm
      subst hmm
      walk_at "rdn"
      refine q_slTe (ys := [.int (mm : Nat), .str w]) (SqT.of ht) (show ¬ (HT.sIx 3 0 (some (-2)) = 0 ∧ HT.sIx 3 3 none = 3) by decide) rfl ?_
      intro d hd
      walk_at "rdn"
      have S : Same H (upd H d (.tup [.int (mm : Nat), .str w])) := Same.new hd
      have hm' := hm.same S
      have e1' := S _ _ e1
      have e2' := PairAt.all e2 S
      have ht' := S _ _ ht
      generalize upd H d (.tup [.int (mm : Nat), .str w]) = G at S hm' e1' e2' ht' ⊢
      have hmd' := hm'.md
      refine q_lockE (u := .dT (zk μ.ks μ.cl)) hm'.c trivial ?_
      intro od
      have hmd2 : upd G μ.c (.frz od (.dT (zk μ.ks μ.cl))) μ.md = some (.dK [(.inr "causes", .ref μ.c), (.inr "words", .ref μ.wd), (.inr "got", .ref μ.g), (.inr "told", .ref μ.tl)]) := (upd_ne nmc).trans hmd'
      with_reducible refine q_lc ?_
      refine q_keys ?_
      walk_at "rdn"
      refine ⟨μ.c, od, rfl, .inr ⟨zk μ.ks μ.cl, upd_same, ?_⟩⟩
      intro D hD
      have hkl := zk_len hm.kl
      have hkb := hm.kb
      refine lc_any walk_keysT (fun i zs _ => zs.length = cntM (μ.ks.take i) (mm : Nat)) (by omega) (fun _ _ _ _ h _ => h) (fun _ _ _ _ h => h) rfl (fun H' s => s _ _ upd_same) hD ?_ ?_ gName_m tTestIx_m
      · rintro i v zs B1 B2 R R2 hi s6 hP hDB ⟨rfl, kk, v2, q, hkv, rfl, hq⟩ hR hR2
        obtain ⟨c, hc, hci, rfl⟩ := zk_get2 hkv
        have hq : B2 q = some (.tup [.int c.1, .int c.2]) := hq
        refine ⟨wipe_set, ?_⟩
        walk_at "rdn"
        refine ⟨hR _ _ (Same.refl _) (fun hb => by rw [cnt_step hci, if_neg (of_decide_eq_false hb)]; exact hP), fun hb => ?_⟩
        walk_at "rdn"
        exact hR2 _ _ (Same.refl _) (by rw [cnt_step hci, if_pos (of_decide_eq_true hb), List.length_append, hP]; rfl)
      · intro zs B1 s6 hP hD3
        refine ⟨s6 _ _ upd_same, ?_⟩
        rw [List.take_of_length_le (by omega)] at hP
        have S2 : Same G (upd B1 μ.c (.dT (zk μ.ks μ.cl))) := lock_same hm'.c s6
        have nDc : D ≠ μ.c := fun e => by rw [e, upd_same] at hD; cases hD
        have hD4 : upd B1 μ.c (.dT (zk μ.ks μ.cl)) D = some (.lst zs) := (upd_ne nDc).trans hD3
        generalize upd B1 μ.c (.dT (zk μ.ks μ.cl)) = G2 at S2 hD4 ⊢
        have hm2 := hm'.same S2
        have e1' := S2 _ _ e1'
        have e2' := PairAt.all e2' S2
        have ht' := S2 _ _ ht'
        have SS := S.trans S2
        clear hD3 hD s6 hmd2 hmd'
        walk_at "rdn"
        intro i hi
        have hmd3 := hm2.md
        have hgg3 := hm2.g
        rw [hP]
        have S3 : Same G2 (upd G2 i (.tup [.int (mm : Nat), .int (1 + (cntM μ.ks (mm : Nat) : Nat))])) := Same.new hi
        have ei : upd G2 i (.tup [.int (mm : Nat), .int (1 + (cntM μ.ks (mm : Nat) : Nat))]) i = some (.tup [.int (mm : Nat), .int (1 + (cntM μ.ks (mm : Nat) : Nat))]) := upd_same
        generalize upd G2 i (.tup [.int (mm : Nat), .int (1 + (cntM μ.ks (mm : Nat) : Nat))]) = G3 at S3 ei ⊢
        have hm3 := hm2.same S3
        have hmd3 := hm3.md
        have hgg3 := hm3.g
        have e1' := S3 _ _ e1'
        have e2' := PairAt.all e2' S3
        have ht' := S3 _ _ ht'
        have SS := SS.trans S3
        clear hi hD4
        walk_at "rdn"
        intro L hL
        have S4 : Same G3 (upd G3 L (.lst xs)) := Same.new hL
        have eL : upd G3 L (.lst xs) L = some (.lst xs) := upd_same
        have nL : L ∉ μ.ls := fun hx => hm3.nq hL L hx (List.mem_singleton.mpr rfl)
        have nL0 : H L = none := SS.free hL
        generalize upd G3 L (.lst xs) = G4 at S4 eL ⊢
        have hm4 := hm3.same S4
        have hmd3 := hm4.md
        have hgg3 := hm4.g
        have e1' := S4 _ _ e1'
        have e2' := PairAt.all e2' S4
        have ht' := S4 _ _ ht'
        have ei := S4 _ _ ei
        have SS := SS.trans S4
        clear hL
        walk_at "rdn"
        refine q_setT hm4.c (k := keyOf (((mm : Nat) : Int), 1 + ((cntM μ.ks (mm : Nat) : Nat) : Int))) (PairAt.key ei) (by omega) ?_
        rw [zk_put hm.kl hm4.newkey]
        obtain ⟨ws, hw, hwl⟩ := hm4.wd
        have no : ∀ b o, b ≠ μ.c → G4 b = some o → upd G4 μ.c (.dT (zk (μ.ks ++ [(((mm : Nat) : Int), 1 + ((cntM μ.ks (mm : Nat) : Nat) : Int))]) (μ.cl ++ [L]))) b = some o := fun b o n e => (upd_ne n).trans e
        have ec : upd G4 μ.c (.dT (zk (μ.ks ++ [(((mm : Nat) : Int), 1 + ((cntM μ.ks (mm : Nat) : Nat) : Int))]) (μ.cl ++ [L]))) μ.c = some (.dT (zk (μ.ks ++ [(((mm : Nat) : Int), 1 + ((cntM μ.ks (mm : Nat) : Nat) : Int))]) (μ.cl ++ [L]))) := upd_same
        generalize upd G4 μ.c (.dT (zk (μ.ks ++ [(((mm : Nat) : Int), 1 + ((cntM μ.ks (mm : Nat) : Nat) : Int))]) (μ.cl ++ [L]))) = G5 at no ec ⊢
        have nic : i ≠ μ.c := fun w => by rw [w, hm4.c] at ei; cases ei
        have niw : i ≠ μ.wd := fun w => by rw [w, hw] at ei; cases ei
        have ntc : t ≠ μ.c := fun w => by rw [w, hm4.c] at ht'; cases ht'
        have hmd5 := no _ _ nmc hmd3
        have ht5 := no _ _ ntc ht'
        walk_at "rdn"
        refine q_setT (no _ _ hm.cw.symm hw) (k := keyOf (((mm : Nat) : Int), 1 + ((cntM μ.ks (mm : Nat) : Nat) : Int))) (PairAt.key (no _ _ nic ei)) (by omega) ?_
        have no2 : ∀ b o, b ≠ μ.c → b ≠ μ.wd → G4 b = some o → upd G5 μ.wd (.dT (putK ws (keyOf (((mm : Nat) : Int), 1 + ((cntM μ.ks (mm : Nat) : Nat) : Int))) (.str w))) b = some o := fun b o n1 n2 e => (upd_ne n2).trans (no b o n1 e)
        have ec2 : upd G5 μ.wd (.dT (putK ws (keyOf (((mm : Nat) : Int), 1 + ((cntM μ.ks (mm : Nat) : Nat) : Int))) (.str w))) μ.c = some (.dT (zk (μ.ks ++ [(((mm : Nat) : Int), 1 + ((cntM μ.ks (mm : Nat) : Nat) : Int))]) (μ.cl ++ [L]))) := (upd_ne hm.cw).trans ec
        have ew2 : upd G5 μ.wd (.dT (putK ws (keyOf (((mm : Nat) : Int), 1 + ((cntM μ.ks (mm : Nat) : Nat) : Int))) (.str w))) μ.wd = some (.dT (putK ws (keyOf (((mm : Nat) : Int), 1 + ((cntM μ.ks (mm : Nat) : Nat) : Int))) (.str w))) := upd_same
        generalize upd G5 μ.wd (.dT (putK ws (keyOf (((mm : Nat) : Int), 1 + ((cntM μ.ks (mm : Nat) : Nat) : Int))) (.str w))) = G6 at no2 ec2 ew2 ⊢
        have hpl := putK_len (kvs := ws) (k := keyOf (((mm : Nat) : Int), 1 + ((cntM μ.ks (mm : Nat) : Nat) : Int))) (v := .str w)
        have hm6 := hm4.sent no2 ec2 ew2 (by omega) hmem.1 hmem.2 eL e2' e3 nL
        have hmd6 := hm6.md
        have hgg6 := hm6.g
        have nac : a ≠ μ.c := fun w => by rw [w, hm4.c] at e1'; cases e1'
        have naw : a ≠ μ.wd := fun w => by rw [w, hw] at e1'; cases e1'
        have e6 := no2 _ _ nac naw e1'
        have ht6 := no2 _ _ ntc (fun w => by rw [w, hw] at ht'; cases ht') ht'
        have ei6 := no2 _ _ nic niw ei
        clear no ec hmd5 ht5
        walk_at "rdn"
        refine k { μ with cl := μ.cl ++ [L], ks := μ.ks ++ [(((mm : Nat) : Int), 1 + ((cntM μ.ks (mm : Nat) : Nat) : Int))] } _ (fun b' o n1 n2 n3 n4 e => (upd_ne (fun w => n3 (by rw [w]; exact List.mem_of_getElem? ha))).trans (no2 b' o n1 n2 (SS _ _ e))) (hm6.app (c := (((mm : Nat) : Int), 1 + ((cntM μ.ks (mm : Nat) : Nat) : Int))) (.inl (List.mem_of_getElem? ha)) e6 ⟨i, rfl, ei6⟩ (fun _ => List.mem_append.mpr (.inr (List.mem_singleton.mpr rfl)))) rfl rfl rfl rfl rfl (by simp [RowD.isSent]) (fun x hx => ?_)
        have e : (Mdl.ls { μ with cl := μ.cl ++ [L], ks := μ.ks ++ [(((mm : Nat) : Int), 1 + ((cntM μ.ks (mm : Nat) : Nat) : Int))] }) = μ.ls ++ [L] := by simp [Mdl.ls]
        rw [e] at hx
        rcases List.mem_append.mp hx with hx | hx
        · exact .inl hx
        · exact .inr (by rw [List.mem_singleton.mp hx]; exact nL0)
    | got m s n =>
      have ht : H t = some (.tup [.str "got", .int m, .int s, .int n]) := ht
      have hmm : m = (mm : Int) := hmm
      subst hmm
      walk_at "rdn"
      refine q_slTe (ys := [.int s, .int n]) (SqT.of ht) (show ¬ (HT.sIx 4 0 (some (-2)) = 0 ∧ HT.sIx 4 4 none = 4) by decide) rfl ?_
      intro d hd
      walk_at "rdn"
      have S : Same H (upd H d (.tup [.int s, .int n])) := Same.new hd
      refine k μ _ (fun b o n1 n2 n3 n4 e => (upd_ne (fun w => n3 (by rw [w]; exact List.mem_of_getElem? ha))).trans (S _ _ e)) (((hm.same S).app (c := (s, n)) (.inl (List.mem_of_getElem? ha)) (S _ _ e1) ⟨d, rfl, upd_same⟩ (fun _ => hk _ _ _ rfl)).more (Nat.le_succ _)) rfl rfl rfl rfl rfl rfl (fun x hx => .inl hx)
    | told m p s n =>
      have ht : H t = some (.tup [.str "told", .int m, .int p, .int s, .int n]) := ht
      have hmm : m = (mm : Int) := hmm
      subst hmm
      walk_at "rdn"
      refine q_slTe (ys := [.int s, .int n]) (SqT.of ht) (show ¬ (HT.sIx 5 0 (some (-2)) = 0 ∧ HT.sIx 5 5 none = 5) by decide) rfl ?_
      intro d hd
      walk_at "rdn"
      have S : Same H (upd H d (.tup [.int s, .int n])) := Same.new hd
      have nba : b ∉ μ.ga := fun hx => (List.nodup_append.mp (List.nodup_append.mp hm.nd).2.1).2.2 b hx b (List.mem_append.mpr (.inl (List.mem_of_getElem? hb))) rfl
      refine k μ _ (fun b' o n1 n2 n3 n4 e => (upd_ne (fun w => n4 (by rw [w]; exact List.mem_of_getElem? hb))).trans (S _ _ e)) (((hm.same S).app (c := (s, n)) (.inr (List.mem_of_getElem? hb)) (S _ _ f1) ⟨d, rfl, upd_same⟩ (fun hx => absurd hx nba)).more (Nat.le_succ _)) rfl rfl rfl rfl rfl rfl (fun x hx => .inl hx)
theorem ok_law_may (T : Tx K mg) : FnOk P w K mg base CX0 4 T.f_law_may T.d_law_may ["model", "member"] (sp_law_may K) := by
  refine T.F_law_may.ok sc_law_may (fun vs H Q E h => ?_) (fun cdv A outer s H vs Q E hr h => ?_)
  · rcases h with ⟨μ, M, B, m, rfl, hm, h5, hB, h0, h1, k⟩
    all_goals rfl
  · have hu := hu_of hr
    refine ⟨_, (pss_cons (ps_set (i := 2) sc_law_may.nd rfl (Or.inl rfl) (pe_op op_add (pe_callB (id := "len") (kx_len (K := K) rfl) (by rfl) T.z_len (by decide +kernel) (pa_cons (pe_ix (ki_list (K := K) rfl) (pe_dget (room1 hr) (pv 0) pe_str (fun _ _ => rfl)) (pv 1) (fun _ _ => rfl)) (pa_nil))) pe_int))
      (pss_cons (ps_set (i := 3) sc_law_may.nd rfl (Or.inl rfl) (pe_lst pa_nil))
      (pss_cons (ps_lock (ps_for PassesOwn.never rfl (pi_keys (pe_dget (room1 hr) (pv 0) pe_str (fun _ _ => rfl))) (kg_tup (K := K) (n := 2) rfl rfl (pgs_cons (pg_name (i := 4) sc_law_may.nd rfl (Or.inl rfl)) (pgs_cons (pg_name (i := 5) sc_law_may.nd rfl (Or.inl rfl)) pgs_nil)))
      (pss_cons (ps_expr (pe_bm PySem.F.plainAttrs_list PySem.F.slot_list_append PySem.F.type_list_append mt_append (pv 3) (pa_cons (pe_tup (pa_cons pe_str (pa_cons (pv 1) (pa_cons (pv 4) (pa_cons (pv 5) (pa_nil)))))) (pa_nil))))
      (pss_one (ps_expr (pe_bm PySem.F.plainAttrs_list PySem.F.slot_list_append PySem.F.type_list_append mt_append (pv 3) (pa_cons (pe_tup (pa_cons pe_str (pa_cons (pv 1) (pa_cons (pv 2) (pa_cons (pv 4) (pa_cons (pv 5) (pa_nil))))))) (pa_nil))))))))
      (pss_one (ps_ret (pe_lc (own := [("row", 6)]) (g := gName 6) rfl sc_law_may.nd (kpi_list (K := K) rfl (pv 3)) (blkOk_by (own := [("row", 6)]) (N := ["model", "member", "place", "rows", "sender", "number", "row"]) (sc := defScope s_law_may) (by decide +kernel)) (fun _ _ _ _ _ => (pg_name (i := 6) sc_law_may.nd rfl (Or.inl rfl))) (fun _ _ _ _ _ => (pts_one (pt_cmpR op_isNon (pe_call (ok_law_why (P := P) T) (hr.mono (by decide)) rfl T.m_law_why T.k_law_why T.b_law_why .nil pass0 (pa_cons (pv 0) (pa_cons (pv 6) (pa_nil)))) pe_non (nomark _)))) (fun _ _ _ _ _ => (pv 6)))))))), ?_⟩
    rcases h with ⟨μ, M, B, m, rfl, hm, h5, hB, h0, h1, k⟩
    have hmd := hm.md
    have htl := hm.tl
    have htll := hm.tll
    have hcc := hm.c
    have nmc := hm.nmc
    obtain ⟨mm, rfl⟩ := Int.eq_ofNat_of_zero_le h0
    obtain ⟨b, hb⟩ : ∃ b, μ.ta[mm]? = some b := ⟨_, List.getElem?_eq_getElem (by omega)⟩
    obtain ⟨ys, js, f1, f2, f3⟩ := hm.ta b (List.mem_of_getElem? hb)
    have hbt : atI (μ.ta.map V.ref) (mm : Int) = some (.ref b) := atI_nat (by rw [List.getElem?_map, hb]; rfl)
    walk_at "rdn"
    intro l hl
    have nml : μ.md ≠ l := ne_of_none hmd hl
    have ncl : μ.c ≠ l := ne_of_none hcc hl
    walk_at "rdn"
    refine q_lock (u := .dT (zk μ.ks μ.cl)) ((upd_ne ncl).trans hcc) trivial ?_
    intro od
    have hmd2 : upd (upd H l (.lst [])) μ.c (.frz od (.dT (zk μ.ks μ.cl))) μ.md = some (.dK [(.inr "causes", .ref μ.c), (.inr "words", .ref μ.wd), (.inr "got", .ref μ.g), (.inr "told", .ref μ.tl)]) := (upd_ne nmc).trans ((upd_ne nml).trans hmd)
    with_reducible refine q_for ?_
    refine q_keys ?_
    walk_at "rdn"
    refine ⟨μ.c, od, rfl, .inr ⟨zk μ.ks μ.cl, upd_same, ?_⟩⟩
    refine for_it walk_keysT (fun i σ H' => (∃ u v w : Option V, σ = [some (.ref μ.md), some (.int (mm : Nat)), some (.int ((ys.length : Nat) + 1)), some (.ref l), u, v, w]) ∧ H' μ.c = some (.frz od (.dT (zk μ.ks μ.cl))) ∧ (∀ b o, b ≠ l → b ≠ μ.c → H b = some o → H' b = some o) ∧ ∃ xs rs, H' l = some (.lst xs) ∧ All2 (RowAt H') xs rs ∧ (∀ ρ ∈ rs, ρ.Good M ∧ ρ.isSent = false) ∧ xs.length = 2 * i) ⟨⟨none, none, none, rfl⟩, upd_same, fun b o n1 n2 e => (upd_ne n2).trans ((upd_ne n1).trans e), [], [], (upd_ne ncl.symm).trans upd_same, .nil, (fun ρ h => nomatch h), rfl⟩ (fun i σ H' _ h => h.2.1) ?_ ?_
    · rintro i x σ G1 G2 hi ⟨⟨u, v, w, rfl⟩, gc, gf, xs, rs, gl, gx, gg, gn⟩ ⟨rfl, kk, v2, q, hkv, rfl, hq⟩
      obtain ⟨c, hc, rfl⟩ := zk_get hkv
      have hq : G2 q = some (.tup [.int c.1, .int c.2]) := hq
      have hkl := zk_len hm.kl
      have hkb := hm.kb
      obtain ⟨c0, c1, c2, c3⟩ := hm.kg c hc
      have hxl : xs.length ≤ 1000 := by omega
      walk_at "rdn"
      intro t1 ht1
      have nlt : l ≠ t1 := ne_of_none gl ht1
      have nct : μ.c ≠ t1 := ne_of_none gc ht1
      have hq1 := ne_of_none hq ht1
      walk_at "rdn"
      have G1f : ∀ b o, b ≠ l → G2 b = some o → upd (upd G2 t1 (.tup [.str "got", .int (mm : Nat), .int c.1, .int c.2])) l (.lst (xs ++ [.ref t1])) b = some o := fun b o n e => (upd_ne n).trans ((Same.new ht1) _ _ e)
      have G1l : upd (upd G2 t1 (.tup [.str "got", .int (mm : Nat), .int c.1, .int c.2])) l (.lst (xs ++ [.ref t1])) l = some (.lst (xs ++ [.ref t1])) := upd_same
      have G1t : upd (upd G2 t1 (.tup [.str "got", .int (mm : Nat), .int c.1, .int c.2])) l (.lst (xs ++ [.ref t1])) t1 = some (.tup [.str "got", .int (mm : Nat), .int c.1, .int c.2]) := (upd_ne nlt.symm).trans upd_same
      generalize upd (upd G2 t1 (.tup [.str "got", .int (mm : Nat), .int c.1, .int c.2])) l (.lst (xs ++ [.ref t1])) = G3 at G1f G1l G1t ⊢
      intro t2 ht2
      have nlt2 : l ≠ t2 := ne_of_none G1l ht2
      have ntt : t1 ≠ t2 := ne_of_none G1t ht2
      have hxl2 : (xs ++ [V.ref t1]).length ≤ 1001 := by rw [List.length_append]; simp; omega
      have gc2 := G1f _ _ ncl gc
      have nct2 : μ.c ≠ t2 := ne_of_none gc2 ht2
      walk_at "rdn"
      have go1 : (RowD.got (mm : Nat) c.1 c.2).Good M := ⟨by omega, by omega, c0, c1, c2⟩
      have go2 : (RowD.told (mm : Nat) ((ys.length : Nat) + 1) c.1 c.2).Good M := ⟨by omega, by omega, by omega, c0, c1, c2⟩
      have nlst : ∀ b o, b ≠ l → G2 b = some o → upd (upd G3 t2 (.tup [.str "told", .int (mm : Nat), .int ((ys.length : Nat) + 1), .int c.1, .int c.2])) l (.lst (xs ++ [.ref t1] ++ [.ref t2])) b = some o := fun b o n e => (upd_ne n).trans ((Same.new ht2) _ _ (G1f _ _ n e))
      refine ⟨⟨_, _, _, rfl⟩, nlst _ _ ncl gc, fun b o n1 n2 e => nlst _ _ n1 (gf _ _ n1 n2 e), xs ++ [.ref t1] ++ [.ref t2], rs ++ [.got (mm : Nat) c.1 c.2] ++ [.told (mm : Nat) ((ys.length : Nat) + 1) c.1 c.2], upd_same, ?_, ?_, by rw [List.length_append, List.length_append, gn]; simp; omega⟩
      · refine ((gx.mono fun v ρ z => ?_).snoc (RowAt.of go1 ((upd_ne nlt.symm).trans ((Same.new ht2) _ _ G1t)))).snoc (RowAt.of go2 ((upd_ne nlt2.symm).trans upd_same))
        obtain ⟨ok, t, e1, e2⟩ := z
        exact ⟨ok, t, e1, nlst _ _ (fun w => by rw [w, gl] at e2; cases e2) e2⟩
      · intro ρ hρ
        rcases List.mem_append.mp hρ with hρ | hρ
        · rcases List.mem_append.mp hρ with hρ | hρ
          · exact gg ρ hρ
          · rw [List.mem_singleton.mp hρ]
            exact ⟨go1, rfl⟩
        · rw [List.mem_singleton.mp hρ]
          exact ⟨go2, rfl⟩
    · rintro σ G ⟨⟨u, v, w, rfl⟩, gc, gf, xs, rs, gl, gx, gg, gn⟩
      refine ⟨gc, ?_⟩
      have S : Same H (upd G μ.c (.dT (zk μ.ks μ.cl))) := fun b o e => by
        by_cases hb : b = μ.c
        · subst hb
          rw [hcc] at e
          rw [upd_same]
          exact e
        · rw [upd_ne hb]
          exact gf b o (ne_of_none e hl) hb e
      have hm2 := hm.same S
      have gl2 : upd G μ.c (.dT (zk μ.ks μ.cl)) l = some (.lst xs) := (upd_ne ncl.symm).trans gl
      have gx2 : All2 (RowAt (upd G μ.c (.dT (zk μ.ks μ.cl)))) xs rs := gx.mono fun v ρ z => by
        obtain ⟨ok, t, e1, e2⟩ := z
        exact ⟨ok, t, e1, (upd_ne (fun w => by rw [w, gc] at e2; cases e2)).trans e2⟩
      generalize upd G μ.c (.dT (zk μ.ks μ.cl)) = G2 at S hm2 gl2 gx2 ⊢
      clear gc gf gl gx
      have hkl := zk_len hm.kl
      have hkb := hm.kb
      walk_at "rdn"
      intro D hD
      refine lc_any walk_list (fun i zs _ => ∃ os, All2 (RowAt G2) zs os ∧ (∀ ρ ∈ os, ρ.Good M ∧ ρ.isSent = false) ∧ zs.length ≤ i) (by omega) (fun _ _ _ _ h _ => h) (fun _ _ _ _ h => h) ⟨[], .nil, (fun ρ h => nomatch h), Nat.le_refl _⟩ (fun H' s => SqL.of (s _ _ gl2)) hD ?_ ?_ gName_m tWhy_m
      · rintro i v zs B1 B2 R R2 hi s6 ⟨os, p1, p2, p3⟩ hDB ⟨rfl, hv⟩ hR hR2
        obtain ⟨ρ, hρ, ok, t, rfl, ht⟩ := gx2.get hv
        obtain ⟨gd, gs⟩ := gg ρ (List.mem_of_getElem? hρ)
        refine ⟨wipe_set, ?_⟩
        walk_at "rdn"
        refine r_law_why rfl (hm := hm2.same s6) (h5 := h5) (hB := hB) (ht := s6 _ _ ht) (h0 := gd.mem.1) (h1 := gd.mem.2) ?_
        intro v2 H2 s7 hv2 _ _
        refine ⟨rfl, _, rfl, hR _ _ s7 (fun _ => ⟨os, p1, p2, by omega⟩), fun _ => ?_⟩
        walk_at "rdn"
        exact hR2 _ _ s7 ⟨os ++ [ρ], p1.snoc ⟨ok, t, rfl, ht⟩, fun τ hτ => by
          rcases List.mem_append.mp hτ with hτ | hτ
          · exact p2 τ hτ
          · rw [List.mem_singleton.mp hτ]
            exact ⟨gd, gs⟩, by rw [List.length_append]; simp; omega⟩
      · rintro zs B1 s6 ⟨os, p1, p2, p3⟩ hD3
        walk_at "rdn"
        exact k D zs os B1 (S.trans s6) (S.free hD) hD3 (RowAt.all p1 s6) p2 (by omega)
theorem ok_law_word (T : Tx K mg) : FnOk P w K mg base CX0 2 T.f_law_word T.d_law_word ["pool"] (sp_law_word ) := by
  refine T.F_law_word.ok sc_law_word (fun vs H Q E h => ?_) (fun cdv A outer s H vs Q E hr h => ?_)
  · rcases h with ⟨q, z, rfl, hq, k⟩
    all_goals rfl
  · have hu := hu_of hr
    refine ⟨_, (pss_cons (ps_set (i := 1) sc_law_word.nd rfl (Or.inl rfl) pe_str)
      (pss_cons (ps_for PassesOwn.never rfl (pi_range1 rfl T.z_range (pa_cons (pe_op op_add pe_int (pe_call (ok_law_take (P := P) T) (hr.mono (by decide)) rfl T.m_law_take T.k_law_take T.b_law_take .nil pass0 (pa_cons (pv 0) (pa_cons pe_int (pa_nil))))) (pa_nil))) (pg_name (i := 2) sc_law_word.nd rfl (Or.inl rfl))
      (pss_one (ps_set (i := 1) sc_law_word.nd rfl (Or.inl rfl) (pe_op op_addStr (pv 1) (pe_ix ix_str pe_str (pe_call (ok_law_take (P := P) T) (hr.mono (by decide)) rfl T.m_law_take T.k_law_take T.b_law_take .nil pass0 (pa_cons (pv 0) (pa_cons pe_int (pa_nil)))) (fun _ _ => rfl))))))
      (pss_one (ps_ret (pv 1))))), ?_⟩
    rcases h with ⟨q, z, rfl, hq, k⟩
    walk_at "rdn"
    obtain ⟨n, hn⟩ := Int.eq_ofNat_of_zero_le (show 0 ≤ 1 + z % 8 by omega)
    rw [hn, Int.toNat_natCast]
    have e1 : upd H q (.lst [.int (z / 8)]) q = some (.lst [.int (z / 8)]) := upd_same
    have f1 : Fr1 q H (upd H q (.lst [.int (z / 8)])) := fun b o nb e => (upd_ne nb).trans e
    generalize upd H q (.lst [.int (z / 8)]) = G at e1 f1 ⊢
    refine for_range (fun j σ H' => (∃ (u : Option V) (w : Str), σ = [some (.ref q), some (.str w), u] ∧ w.length = j ∧ w.cps.toList.all (fun c => decide (97 ≤ c) && decide (c ≤ 122)) = true) ∧ Fr1 q H H' ∧ ∃ z' : Int, H' q = some (.lst [.int z'])) ⟨⟨none, _, rfl, rfl, rfl⟩, f1, _, e1⟩ ?_ ?_
    · rintro j σ H' hj ⟨⟨u, w, rfl, hw1, hw2⟩, f2, z', e2⟩
      walk_at "rdn"
      obtain ⟨cc, hcc, hlo, hhi⟩ := at_all (Str.ofString "abcdefghijklmnopqrstuvwxyz").cps.toList (fun c => 97 ≤ c ∧ c ≤ 122) (i := z' % 26) (by decide +kernel) (by omega) (by
        have : ((Str.ofString "abcdefghijklmnopqrstuvwxyz").cps.toList.length : Int) = 26 := by decide +kernel
        omega)
      refine q_ixS (line_of (by decide +kernel)) hcc ?_
      refine q_addStr (line_of (by show w.length + 1 ≤ _; omega)) ?_
      walk_at "rdn"
      refine ⟨⟨_, _, rfl, by rw [PySem.Str.length_append, hw1]; rfl, ?_⟩, fun b o nb e => (upd_ne nb).trans (f2 b o nb e), _, upd_same⟩
      show ((w.cps ++ #[cc]).toList.all _) = true
      rw [Array.toList_append, List.all_append, hw2]
      simp [hlo, hhi]
    · rintro σ H' ⟨⟨u, w, rfl, hw1, hw2⟩, f2, z', e2⟩
      walk_at "rdn"
      refine k w z' H' f2 e2 (by omega) ?_
      unfold textB
      rw [hw2, hw1, decide_eq_true (show 1 ≤ ((n : Nat) : Int) by omega), decide_eq_true (show ((n : Nat) : Int) ≤ 8 by omega)]
      rfl
theorem ok_law_new_row (T : Tx K mg) : FnOk P w K mg base CX0 5 T.f_law_new_row T.d_law_new_row ["model", "members", "wild", "pool"] (sp_law_new_row K) := by
  refine T.F_law_new_row.ok sc_law_new_row (fun vs H Q E h => ?_) (fun cdv A outer s H vs Q E hr h => ?_)
  · rcases h with ⟨μ, M, B, q, z, rfl, hm, h2, h5, hB, hq, nq, k⟩
    all_goals rfl
  · have hu := hu_of hr
    refine ⟨_, (pss_cons (ps_set (i := 4) sc_law_new_row.nd rfl (Or.inl rfl) (pe_call (ok_law_take (P := P) T) (hr.mono (by decide)) rfl T.m_law_take T.k_law_take T.b_law_take .nil pass0 (pa_cons (pv 3) (pa_cons pe_int (pa_nil)))))
      (pss_cons (ps_set (i := 5) sc_law_new_row.nd rfl (Or.inl rfl) (pe_call (ok_law_take (P := P) T) (hr.mono (by decide)) rfl T.m_law_take T.k_law_take T.b_law_take .nil pass0 (pa_cons (pv 3) (pa_cons (pv 2) (pa_nil)))))
      (pss_cons (ps_set (i := 6) sc_law_new_row.nd rfl (Or.inl rfl) (pe_call (ok_law_take (P := P) T) (hr.mono (by decide)) rfl T.m_law_take T.k_law_take T.b_law_take .nil pass0 (pa_cons (pv 3) (pa_cons (pv 1) (pa_nil)))))
      (pss_cons (ps_set (i := 7) sc_law_new_row.nd rfl (Or.inl rfl) (pe_call (ok_law_take (P := P) T) (hr.mono (by decide)) rfl T.m_law_take T.k_law_take T.b_law_take .nil pass0 (pa_cons (pv 3) (pa_cons pe_int (pa_nil)))))
      (pss_cons (ps_set (i := 8) sc_law_new_row.nd rfl (Or.inl rfl) (pe_tup (pa_cons (pe_call (ok_law_take (P := P) T) (hr.mono (by decide)) rfl T.m_law_take T.k_law_take T.b_law_take .nil pass0 (pa_cons (pv 3) (pa_cons (pv 1) (pa_nil)))) (pa_cons (pe_op op_add pe_int (pe_call (ok_law_take (P := P) T) (hr.mono (by decide)) rfl T.m_law_take T.k_law_take T.b_law_take .nil pass0 (pa_cons (pv 3) (pa_cons pe_int (pa_nil))))) (pa_nil)))))
      (pss_cons (ps_if (PW.pt (pw_and (pt_cmpR op_eq (pv 5) pe_int (nomark _)) (pw_and1 (pt_cmpR op_lt (pv 4) pe_int (nomark _)))))
      (pss_one (ps_ret (pe_op (ko_catT (K := K) rfl) (pe_tup (pa_cons pe_str (pa_cons (pv 6) (pa_nil)))) (pv 8)))) pss_nil)
      (pss_cons (ps_if (pt_cmpR op_eq (pv 5) pe_int (nomark _))
      (pss_one (ps_ret (pe_op (ko_catT (K := K) rfl) (pe_tup (pa_cons pe_str (pa_cons (pv 6) (pa_cons (pe_op op_add pe_int (pe_call (ok_law_take (P := P) T) (hr.mono (by decide)) rfl T.m_law_take T.k_law_take T.b_law_take .nil pass0 (pa_cons (pv 3) (pa_cons (pe_op op_add (pe_callB (id := "len") (kx_len (K := K) rfl) (by rfl) T.z_len (by decide +kernel) (pa_cons (pe_ix (ki_list (K := K) rfl) (pe_dget (room1 hr) (pv 0) pe_str (fun _ _ => rfl)) (pv 6) (fun _ _ => rfl)) (pa_nil))) pe_int) (pa_nil))))) (pa_nil))))) (pv 8)))) pss_nil)
      (pss_cons (ps_set (i := 9) sc_law_new_row.nd rfl (Or.inl rfl) (pe_call (ok_law_may (P := P) T) (hr.mono (by decide)) rfl T.m_law_may T.k_law_may T.b_law_may .nil pass0 (pa_cons (pv 0) (pa_cons (pv 6) (pa_nil)))))
      (pss_cons (ps_if (PW.pt (pw_and (PW.pt (pw_or (pt_cmpR op_lt (pv 4) pe_int (nomark _)) (pw_or1 (pt_cmpR (ko_eqD (K := K) rfl hr.units) (pv 9) (pe_lst pa_nil) (nomark _))))) (pw_and1 (pt_cmpR op_lt (pe_callB (id := "len") call_len_dT (by rfl) T.z_len (by decide +kernel) (pa_cons (pe_dget (room1 hr) (pv 0) pe_str (fun _ _ => rfl)) (pa_nil))) pe_int (nomark _)))))
      (pss_one (ps_ret (pe_tup (pa_cons pe_str (pa_cons (pv 6) (pa_cons (pe_call (ok_law_word (P := P) T) (hr.mono (by decide)) rfl T.m_law_word T.k_law_word T.b_law_word .nil pass0 (pa_cons (pv 3) (pa_nil))) (pa_nil))))))) pss_nil)
      (pss_cons (ps_if (pt_cmpR (ko_eqD (K := K) rfl hr.units) (pv 9) (pe_lst pa_nil) (nomark _))
      (pss_one (ps_set (i := 9) sc_law_new_row.nd rfl (Or.inl rfl) (pe_lst (pa_cons (pe_tup (pa_cons pe_str (pa_cons pe_int (pa_cons pe_int (pa_cons pe_int (pa_nil)))))) (pa_nil))))) pss_nil)
      (pss_cons (ps_if (pt_cmpR op_gt (pv 4) pe_int (nomark _))
      (pss_one (ps_set (i := 9) sc_law_new_row.nd rfl (Or.inl rfl) (pe_op op_cat (pe_slice (ks_list (K := K) rfl) (pv 9) (po_some (pe_un un_neg pe_int)) po_none) (pe_lc (own := [("row", 10)]) (g := gName 10) rfl sc_law_new_row.nd (kpi_list (K := K) rfl (pv 9)) (blkOk_by (own := [("row", 10)]) (N := ["model", "members", "wild", "pool", "way", "odd", "member", "pick", "ident", "rows", "row"]) (sc := defScope s_law_new_row) (by decide +kernel)) (fun _ _ _ _ _ => (pg_name (i := 10) sc_law_new_row.nd rfl (Or.inl rfl))) (fun _ _ _ _ _ => (pts_one (pt_cmpR op_eq (pe_ix (ki_tup (K := K) rfl) (pv 10) pe_int (fun _ _ => rfl)) pe_str (nomark _)))) (fun _ _ _ _ _ => (pv 10)))))) pss_nil)
      (pss_one (ps_ret (pe_ix (ki_list (K := K) rfl) (pv 9) (pe_op op_mod (pv 7) (pe_callB (id := "len") (kx_len (K := K) rfl) (by rfl) T.z_len (by decide +kernel) (pa_cons (pv 9) (pa_nil)))) (fun _ _ => rfl))))))))))))))), ?_⟩
    rcases h with ⟨μ, M, B, q, z, rfl, hm, h2, h5, hB, hq, nq, k⟩
    have hq0 := hq
    have hmd := hm.md
    have htl := hm.tl
    have htll := hm.tll
    have hcc := hm.c
    have hkl := zk_len hm.kl
    have hkb := hm.kb
    have f0 : Fr1 q H H := Fr1.refl
    clear htl htll hmd
    refine q_seqC (fun σ' H' => ∃ wy : Int, 0 ≤ wy ∧ wy < 8 ∧ σ' = [some (.ref μ.md), some (.int M), some (.int 1), some (.ref q), some (.int wy), none, none, none, none, none, none] ∧ Fr1 q H H' ∧ ∃ z : Int, H' q = some (.lst [.int z])) (fun N k1 => ?_) ?_
    · walk_at "rdn"
      exact k1 _ _ ⟨_, by omega, by omega, rfl, fun b o nb e => (upd_ne nb).trans (f0 b o nb e), _, upd_same⟩
    rintro σ H1 ⟨wy, wy0, wy1, rfl, f1, z, hq⟩
    refine q_seqC (fun σ' H' => σ' = [some (.ref μ.md), some (.int M), some (.int 1), some (.ref q), some (.int wy), some (.int 0), none, none, none, none, none] ∧ Fr1 q H H' ∧ ∃ z : Int, H' q = some (.lst [.int z])) (fun N k1 => ?_) ?_
    · walk_at "rdn"
      rw [Int.emod_one]
      exact k1 _ _ ⟨rfl, fun b o nb e => (upd_ne nb).trans (f1 b o nb e), _, upd_same⟩
    rintro σ H2 ⟨rfl, f2, z, hq⟩
    refine q_seqC (fun σ' H' => ∃ me : Int, 0 ≤ me ∧ me < M ∧ σ' = [some (.ref μ.md), some (.int M), some (.int 1), some (.ref q), some (.int wy), some (.int 0), some (.int me), none, none, none, none] ∧ Fr1 q H H' ∧ ∃ z : Int, H' q = some (.lst [.int z])) (fun N k1 => ?_) ?_
    · walk_at "rdn"
      have em0 := Int.emod_nonneg z (show M ≠ 0 by omega)
      have em1 := Int.emod_lt_of_pos z (show 0 < M by omega)
      exact k1 _ _ ⟨_, by omega, by omega, rfl, fun b o nb e => (upd_ne nb).trans (f2 b o nb e), _, upd_same⟩
    rintro σ H3 ⟨me, me0, me1, rfl, f3, z, hq⟩
    refine q_seqC (fun σ' H' => ∃ pk : Int, 0 ≤ pk ∧ pk < 60 ∧ σ' = [some (.ref μ.md), some (.int M), some (.int 1), some (.ref q), some (.int wy), some (.int 0), some (.int me), some (.int pk), none, none, none] ∧ Fr1 q H H' ∧ ∃ z : Int, H' q = some (.lst [.int z])) (fun N k1 => ?_) ?_
    · walk_at "rdn"
      exact k1 _ _ ⟨_, by omega, by omega, rfl, fun b o nb e => (upd_ne nb).trans (f3 b o nb e), _, upd_same⟩
    rintro σ H4 ⟨pk, pk0, pk1, rfl, f4, z, hq⟩
    refine q_seqC (fun σ' H' => ∃ i, σ' = [some (.ref μ.md), some (.int M), some (.int 1), some (.ref q), some (.int wy), some (.int 0), some (.int me), some (.int pk), some (.ref i), none, none] ∧ Fr1 q H H' ∧ ∃ z : Int, H' q = some (.lst [.int z])) (fun N k1 => ?_) ?_
    · walk_at "rdn"
      intro i hi
      walk_at "rdn"
      have nqi : q ≠ i := fun e => by rw [← e, upd_same] at hi; cases hi
      exact k1 _ _ ⟨i, rfl, fun b o nb e => Same.new hi _ _ ((upd_ne nb).trans ((upd_ne nb).trans (f4 b o nb e))), _, (upd_ne nqi).trans upd_same⟩
    rintro σ H5 ⟨i, rfl, f5, z, hq⟩
    have hm5 := hm.keep (fr1_keep f5) (fun b hb => by rw [List.mem_singleton.mp hb]; exact ⟨_, hq0⟩) nq
    have hRet : ∀ (l : Addr) (xs : List V) (rs : List RowD) (G : Hp), Same H5 G → G l = some (.lst xs) → All2 (RowAt G) xs rs → (∀ ρ ∈ rs, ρ.Good M ∧ ρ.isSent = false) → xs ≠ [] → xs.length ≤ 1001 → ∃ (t : Addr), atI xs (pk % (xs.length : Nat)) = some (.ref t) ∧ Q (.ref t) G := fun l xs rs G s1 e1 e2 e3 e4 e5 => by
      have hpos : 0 < xs.length := List.length_pos_iff.mpr e4
      obtain ⟨v, hv, ρ, hρ, hP⟩ := at_all xs (fun v => ∃ ρ ∈ rs, RowAt G v ρ) (i := pk % (xs.length : Nat)) (fun v hv => by
        obtain ⟨ρ, h1, h2⟩ := e2.mem hv
        exact ⟨ρ, h1, h2⟩) (Int.emod_nonneg _ (by omega)) (Int.emod_lt_of_pos _ (by omega))
      obtain ⟨ok, t, rfl, ht⟩ := hP
      exact ⟨t, hv, k t ρ G (fun b o nb e => s1 _ _ (f5 b o nb e)) ht (e3 ρ hρ).1 (fun w => by rw [(e3 ρ hρ).2] at w; cases w)⟩
    refine q_seqC (fun σ' H' => σ' = [some (.ref μ.md), some (.int M), some (.int 1), some (.ref q), some (.int wy), some (.int 0), some (.int me), some (.int pk), some (.ref i), none, none] ∧ H' = H5) (fun N k1 => ?_) ?_
    · walk_at "rdn"
      exact k1 _ _ ⟨rfl, rfl⟩
    rintro σ H5 ⟨rfl, rfl⟩
    refine q_seqC (fun σ' H' => σ' = [some (.ref μ.md), some (.int M), some (.int 1), some (.ref q), some (.int wy), some (.int 0), some (.int me), some (.int pk), some (.ref i), none, none] ∧ H' = H5) (fun N k1 => ?_) ?_
    · walk_at "rdn"
      exact k1 _ _ ⟨rfl, rfl⟩
    rintro σ H5 ⟨rfl, rfl⟩
    refine q_seqC (fun σ' H' => ∃ l xs rs, σ' = [some (.ref μ.md), some (.int M), some (.int 1), some (.ref q), some (.int wy), some (.int 0), some (.int me), some (.int pk), some (.ref i), some (.ref l), none] ∧ Same H5 H' ∧ H' l = some (.lst xs) ∧ All2 (RowAt H') xs rs ∧ (∀ ρ ∈ rs, ρ.Good M ∧ ρ.isSent = false) ∧ xs.length ≤ 1000) (fun N k1 => ?_) ?_
    · walk_at "rdn"
      intro l xs rs H6 s6 _ e1 e2 e3 e4
      walk_at "rdn"
      exact k1 _ _ ⟨l, xs, rs, rfl, s6, e1, e2, e3, e4⟩
    rintro σ H6 ⟨l, xs, rs, rfl, s6, e1, e2, e3, e4⟩
    have hm6 := hm5.same s6
    have hc6 := hm6.c
    have hq6 := s6 _ _ hq
    have hmd6 := hm6.md
    have hsent : ∀ (w : Str) (G : Hp), (∀ b o, b ≠ q → H6 b = some o → G b = some o) → w.length ≤ 8 → textB w 97 122 8 = true → (zk μ.ks μ.cl).length < 14 → ∀ p, G p = none → Q (.ref p) (upd G p (.tup [.str "sent", .int me, .str w])) := fun w G f w1 w2 w3 p hp =>
      k p (.sent me w) _ (fun b o nb e => Same.new hp _ _ (f b o nb (s6 _ _ (f5 b o nb e)))) upd_same ⟨me0, by omega, w1, w2⟩ (fun _ => by omega)
    refine q_seqC (fun σ' H' => σ' = [some (.ref μ.md), some (.int M), some (.int 1), some (.ref q), some (.int wy), some (.int 0), some (.int me), some (.int pk), some (.ref i), some (.ref l), none] ∧ Same H6 H') (fun N k1 => ?_) ?_
    · walk_at "rdn"
      refine q_ifx (fun h1 => ?_) (fun h1 => ?_)
      · walk_at "rdn"
        refine q_lenT2 hc6 ?_
        walk_at "rdn"
        refine q_ifx (fun h14 => ?_) (fun h14 => ?_)
        · walk_at "rdn"
          intro w z2 G f g l1 t1
          walk_at "rdn"
          intro p hp
          exact hsent w G f l1 t1 (by omega) p hp
        · walk_at "rdn"
          exact k1 _ _ ⟨rfl, Same.refl _⟩
      · walk_at "rdn"
        intro p0 hp0
        have S0 : Same H6 (upd H6 p0 (.lst [])) := Same.new hp0
        have ep : upd H6 p0 (.lst []) p0 = some (.lst []) := upd_same
        generalize upd H6 p0 (.lst []) = G0 at S0 ep ⊢
        have hmdG := S0 _ _ hmd6
        have hcG := S0 _ _ hc6
        have hqG := S0 _ _ hq6
        clear hp0
        refine q_eqRows (SqL.of (S0 _ _ e1)) (RowAt.all e2 S0) (SqL.of ep) .nil ?_
        walk_at "rdn"
        refine q_ifx (fun he => ?_) (fun he => ?_)
        · walk_at "rdn"
          refine q_lenT2 hcG ?_
          walk_at "rdn"
          refine q_ifx (fun h14 => ?_) (fun h14 => ?_)
          · walk_at "rdn"
            intro w z2 G f g l1 t1
            walk_at "rdn"
            intro p hp
            exact hsent w G (fun b o nb e => f b o nb (S0 _ _ e)) l1 t1 (by omega) p hp
          · walk_at "rdn"
            exact k1 _ _ ⟨rfl, S0⟩
        · walk_at "rdn"
          exact k1 _ _ ⟨rfl, S0⟩
    rintro σ H7 ⟨rfl, s7⟩
    have hm7 := hm6.same s7
    have e1 := s7 _ _ e1
    have e2 := RowAt.all e2 s7
    have s67 := s6.trans s7
    refine q_seqC (fun σ' H' => ∃ l xs rs, σ' = [some (.ref μ.md), some (.int M), some (.int 1), some (.ref q), some (.int wy), some (.int 0), some (.int me), some (.int pk), some (.ref i), some (.ref l), none] ∧ Same H7 H' ∧ H' l = some (.lst xs) ∧ All2 (RowAt H') xs rs ∧ (∀ ρ ∈ rs, ρ.Good M ∧ ρ.isSent = false) ∧ xs.length ≤ 1000 ∧ xs ≠ []) (fun N k1 => ?_) ?_
    · walk_at "rdn"
      intro p0 hp0
      have S0 : Same H7 (upd H7 p0 (.lst [])) := Same.new hp0
      have ep : upd H7 p0 (.lst []) p0 = some (.lst []) := upd_same
      generalize upd H7 p0 (.lst []) = G0 at S0 ep ⊢
      clear hp0
      refine q_eqRows (SqL.of (S0 _ _ e1)) (RowAt.all e2 S0) (SqL.of ep) .nil ?_
      walk_at "rdn"
      refine q_ifx (fun he => ?_) (fun he => ?_)
      · walk_at "rdn"
        intro t1 ht1
        walk_at "rdn"
        intro l2 hl2
        have ntl : t1 ≠ l2 := by walk_at "ne"
        walk_at "rdn"
        have gd : (RowD.got 0 0 1).Good M := ⟨by omega, by omega, by omega, by omega, by omega⟩
        exact k1 _ _ ⟨l2, [.ref t1], [.got 0 0 1], rfl, S0.trans ((Same.new ht1).trans (Same.new hl2)), upd_same, .cons (RowAt.of gd ((upd_ne ntl).trans upd_same)) .nil, (fun ρ hρ => by rw [List.mem_singleton.mp hρ]; exact ⟨gd, rfl⟩), by simp, by simp⟩
      · walk_at "rdn"
        exact k1 _ _ ⟨l, xs, rs, rfl, S0, S0 _ _ e1, RowAt.all e2 S0, e3, e4, fun hx0 => he (by
          have := e2.len
          rw [hx0] at this
          exact List.eq_nil_of_length_eq_zero this.symm)⟩
    rintro σ H8 ⟨l, xs, rs, rfl, s8, e1, e2, e3, e4, e5⟩
    have s68 := s67.trans s8
    refine q_seqC (fun σ' H' => ∃ l xs rs, (∃ u : Option V, σ' = [some (.ref μ.md), some (.int M), some (.int 1), some (.ref q), some (.int wy), some (.int 0), some (.int me), some (.int pk), some (.ref i), some (.ref l), u]) ∧ Same H8 H' ∧ H' l = some (.lst xs) ∧ All2 (RowAt H') xs rs ∧ (∀ ρ ∈ rs, ρ.Good M ∧ ρ.isSent = false) ∧ xs.length ≤ 1001 ∧ xs ≠ []) (fun N k1 => ?_) ?_
    · walk_at "rdn"
      refine q_ifx (fun h1 => ?_) (fun h1 => ?_)
      · walk_at "rdn"
        intro d hd
        rw [cut_last]
        have S0 : Same H8 (upd H8 d (.lst (xs.drop (xs.length - 1)))) := Same.new hd
        have ed : upd H8 d (.lst (xs.drop (xs.length - 1))) d = some (.lst (xs.drop (xs.length - 1))) := upd_same
        generalize upd H8 d (.lst (xs.drop (xs.length - 1))) = G0 at S0 ed ⊢
        have e1 := S0 _ _ e1
        have e2 := RowAt.all e2 S0
        clear hd
        walk_at "rdn"
        intro D hD
        refine lc_any walk_list (fun i zs _ => ∃ os, All2 (RowAt G0) zs os ∧ (∀ ρ ∈ os, ρ.Good M ∧ ρ.isSent = false) ∧ zs.length ≤ i) (by omega) (fun _ _ _ _ h _ => h) (fun _ _ _ _ h => h) ⟨[], .nil, (fun ρ h => nomatch h), Nat.le_refl _⟩ (fun H' s => SqL.of (s _ _ e1)) hD ?_ ?_ gName_m tTestIxC_m
        · rintro j v zs B1 B2 R R2 hj s6 ⟨os, p1, p2, p3⟩ hDB ⟨rfl, hv⟩ hR hR2
          obtain ⟨ρ, hρ, ok, t, rfl, ht⟩ := e2.get hv
          have gg := e3 ρ (List.mem_of_getElem? hρ)
          have ht2 := s6 _ _ ht
          refine ⟨wipe_set, ?_⟩
          walk_at "rdn"
          refine q_ixT (SqT.of ht2) RowD.at0 ?_
          walk_at "rdn"
          refine ⟨hR _ _ (Same.refl _) (fun hb => ⟨os, p1, p2, by omega⟩), fun hb => ?_⟩
          walk_at "rdn"
          exact hR2 _ _ (Same.refl _) ⟨os ++ [ρ], p1.snoc ⟨ok, t, rfl, ht⟩, fun τ hτ => by
            rcases List.mem_append.mp hτ with hτ | hτ
            · exact p2 τ hτ
            · rw [List.mem_singleton.mp hτ]
              exact gg, by rw [List.length_append]; simp; omega⟩
        · rintro zs B1 s6 ⟨os, p1, p2, p3⟩ hD3
          have ed2 := s6 _ _ ed
          have hpos : 0 < xs.length := List.length_pos_iff.mpr e5
          have ld : (xs.drop (xs.length - 1)).length = 1 := by rw [List.length_drop]; omega
          walk_at "rdn"
          intro m hm2
          walk_at "rdn"
          exact k1 _ _ ⟨m, xs.drop (xs.length - 1) ++ zs, rs.drop (xs.length - 1) ++ os, ⟨_, rfl⟩, S0.trans (s6.trans (Same.new hm2)), upd_same, (RowAt.all (e2.drop _) (s6.trans (Same.new hm2))).app (RowAt.all p1 (s6.trans (Same.new hm2))), fun ρ hρ => (List.mem_append.mp hρ).elim (fun h => e3 ρ (List.mem_of_mem_drop h)) (p2 ρ), by rw [List.length_append]; omega, fun hx0 => by
            have := congrArg List.length hx0
            rw [List.length_append, ld] at this
            simp at this⟩
      · walk_at "rdn"
        exact k1 _ _ ⟨l, xs, rs, ⟨_, rfl⟩, Same.refl _, e1, e2, e3, by omega, e5⟩
    rintro σ H9 ⟨l, xs, rs, ⟨u, rfl⟩, s9, e1, e2, e3, e4, e5⟩
    obtain ⟨t, hat, hQ⟩ := hRet l xs rs H9 (s68.trans s9) e1 e2 e3 e5 e4
    have hpos : 0 < xs.length := List.length_pos_iff.mpr e5
    walk_at "rdn"
    exact hQ
theorem ok_law_rows (T : Tx K mg) : FnOk P w K mg base CX0 6 T.f_law_rows T.d_law_rows ["script", "start", "wild"] (sp_law_rows K) := by
  refine T.F_law_rows.ok sc_law_rows (fun vs H Q E h => ?_) (fun cdv A outer s H vs Q E hr h => ?_)
  · rcases h with ⟨a, ns, rfl, hs, hl, k⟩
    all_goals rfl
  · have hu := hu_of hr
    refine ⟨_, (pss_cons (ps_set (i := 3) sc_law_rows.nd rfl (Or.inl rfl) (pe_op op_add pe_int (pe_op op_mod (pe_call (ok_law_cell_at (P := P) T) (hr.mono (by decide)) rfl T.m_law_cell_at T.k_law_cell_at T.b_law_cell_at .nil pass0 (pa_cons (pv 0) (pa_cons pe_int (pa_nil)))) pe_int)))
      (pss_cons (ps_set (i := 4) sc_law_rows.nd rfl (Or.inl rfl) (pe_call (ok_law_model (P := P) T) (hr.mono (by decide)) rfl T.m_law_model T.k_law_model T.b_law_model .nil pass0 (pa_cons (pv 3) (pa_nil))))
      (pss_cons (ps_set (i := 5) sc_law_rows.nd rfl (Or.inl rfl) (pe_lst pa_nil))
      (pss_cons (ps_for PassesOwn.never rfl (kpi_list (K := K) rfl (pe_slice (ks_list (K := K) rfl) (pv 0) (po_some (pv 1)) (po_some pe_int))) (pg_name (i := 6) sc_law_rows.nd rfl (Or.inl rfl))
      (pss_cons (ps_set (i := 7) sc_law_rows.nd rfl (Or.inl rfl) (pe_call (ok_law_new_row (P := P) T) (hr.mono (by decide)) rfl T.m_law_new_row T.k_law_new_row T.b_law_new_row .nil pass0 (pa_cons (pv 4) (pa_cons (pv 3) (pa_cons (pv 2) (pa_cons (pe_call (ok_law_pool (P := P) T) (hr.mono (by decide)) rfl T.m_law_pool T.k_law_pool T.b_law_pool .nil pass0 (pa_cons (pv 6) (pa_nil))) (pa_nil)))))))
      (pss_cons (ps_set (i := 8) sc_law_rows.nd rfl (Or.inl rfl) (pe_cmpR op_isNon (pe_call (ok_law_why (P := P) T) (hr.mono (by decide)) rfl T.m_law_why T.k_law_why T.b_law_why .nil pass0 (pa_cons (pv 4) (pa_cons (pv 7) (pa_nil)))) pe_non (nomark _)))
      (pss_cons (ps_if (pt_val (pv 8))
      (pss_one (ps_expr (pe_call (ok_law_go (P := P) T) (hr.mono (by decide)) rfl T.m_law_go T.k_law_go T.b_law_go .nil pass0 (pa_cons (pv 4) (pa_cons (pv 7) (pa_nil)))))) pss_nil)
      (pss_one (ps_if (PW.pt (pw_or (pt_val (pv 8)) (pw_or1 (pt_cmpR op_gt (pv 2) pe_int (nomark _)))))
      (pss_one (ps_expr (pe_bm PySem.F.plainAttrs_list PySem.F.slot_list_append PySem.F.type_list_append mt_append (pv 5) (pa_cons (pv 7) (pa_nil))))) pss_nil))))))
      (pss_one (ps_ret (pe_tup (pa_cons (pv 3) (pa_cons (pv 5) (pa_nil)))))))))), ?_⟩
    rcases h with ⟨a, ns, rfl, hs, hl, k⟩
    walk_at "rdn"
    intro c
    obtain ⟨M, hM⟩ : ∃ M, M = 2 + c % 4 := ⟨_, rfl⟩
    have h2 : 2 ≤ M := by omega
    have h5 : M ≤ 5 := by omega
    walk_at "rdn"
    rw [← hM]
    clear hM
    intro μ H1 s1 hm hk0 fc fw fg ft
    have hs1 := s1.seq hs
    walk_at "rdn"
    intro R hR
    have hs2 : SqL K (upd H1 R (.lst [])) a (ns.map V.int) := (Same.new hR).seq hs1
    walk_at "rdn"
    intro d hd
    have hlen := cutV_length (List.map V.int ns) (some 2) (some 63)
    rw [List.length_map] at hlen
    have hall : ∀ x ∈ cutV (List.map V.int ns) (some 2) (some 63), ∃ n : Int, x = .int n := fun x hx => by
      obtain ⟨n, _, rfl⟩ := List.mem_map.mp (cutV_mem hx)
      exact ⟨n, rfl⟩
    generalize cutV (List.map V.int ns) (some 2) (some 63) = cx at hlen hall ⊢
    have nRd : R ≠ d := by walk_at "ne"
    have S2 : Same H1 (upd (upd H1 R (.lst [])) d (.lst cx)) := (Same.new hR).trans (Same.new hd)
    have eR : upd (upd H1 R (.lst [])) d (.lst cx) R = some (.lst []) := (upd_ne nRd).trans upd_same
    have ed : upd (upd H1 R (.lst [])) d (.lst cx) d = some (.lst cx) := upd_same
    have nR : R ∉ μ.ls := fun hx => hm.nq hR R hx (List.mem_singleton.mpr rfl)
    have ndd : d ∉ μ.ls := fun hx => hm.nq (upd_free hd) d hx (List.mem_singleton.mpr rfl)
    have inv : RowsI M (2 * 0) H (upd (upd H1 R (.lst [])) d (.lst cx)) μ.md R d cx μ [] [] := { hm := hm.same S2, md := rfl, sm := s1.trans S2, hR := eR, hx := .nil, hg := (fun ρ h => nomatch h), hl := Nat.zero_le _, hs := by rw [hk0]; rfl, hk := by rw [hk0]; simp, nR := nR, nd := ndd, hd := ed, fc := fc, fw := fw, fg := fg, ft := ft, fR := s1.free hR }
    walk_at "rdn"
    generalize upd (upd H1 R (.lst [])) d (.lst cx) = G0 at inv ⊢
    clear hd hR S2 eR ed nR ndd hm hs1 hs2 fc fw fg ft
    refine for_list (K := K) (a := d) (xs := cx) (fun i σ H' => (∃ u v w : Option V, σ = [some (.ref a), some (.int 2), some (.int 1), some (.int M), some (.ref μ.md), some (.ref R), u, v, w]) ∧ ∃ μ' xs rs, RowsI M (2 * i) H H' μ.md R d cx μ' xs rs ∧ rs.length ≤ i) ⟨⟨none, none, none, rfl⟩, μ, [], [], inv, Nat.le_refl _⟩ (fun i σ H' _ h => by
      obtain ⟨_, μ', xs, rs, h, _⟩ := h
      exact SqL.of h.hd) ?_ ?_
    · rintro i cell σ H2 hx ⟨⟨u, v, w, rfl⟩, μ', xs, rs, iv, hli⟩
      obtain ⟨n, rfl⟩ := hall cell (List.mem_of_getElem? hx)
      have hix := (List.getElem?_eq_some_iff.mp hx).1
      have hB : 2 * i ≤ 200 := by omega
      rw [← iv.md]
      walk_at "rdn"
      intro q z hq hz
      have iv1 := iv.fr (H' := upd H2 q (.lst [.int z])) (q := q) (fun b o nb e => (upd_ne nb).trans e) hq
      have nq := iv.hm.nq hq
      have fq3 : Fr1 q H2 (upd H2 q (.lst [.int z])) := fun b o nb e => (upd_ne nb).trans e
      have eq1 : upd H2 q (.lst [.int z]) q = some (.lst [.int z]) := upd_same
      generalize upd H2 q (.lst [.int z]) = H3 at iv1 eq1 fq3 ⊢
      walk_at "rdn"
      refine r_law_new_row rfl (hm := iv1.hm) (h2 := h2) (h5 := h5) (hB := hB) (hq := eq1) (nq := nq) ?_
      intro t ρ H4 f4 ht gd hs14
      have iv2 := iv.fr (H' := H4) (q := q) (fun b o nb e => f4 b o nb (fq3 b o nb e)) hq
      have hxl := iv.hx.len
      walk_at "rdn"
      refine r_law_why rfl (hm := iv2.hm) (h5 := h5) (hB := hB) (ht := ht) (h0 := gd.mem.1) (h1 := gd.mem.2) ?_
      intro v2 H5 s5 hv hk hsent
      have iv3 := iv2.same s5
      have ht5 := s5 _ _ ht
      rcases hv with rfl | ⟨sg, rfl⟩
      · walk_at "rdn"
        refine r_law_go rfl (hm := iv3.hm) (h5 := h5) (hB := hB) (ht := ht5) (hg := gd) (hk := hk rfl) ?_
        intro μ2 H6 f6 m6 e1 e2 e3 e4 e5 e6 e7
        have hR6 := iv3.goR f6
        walk_at "rdn"
        exact ⟨⟨_, _, _, rfl⟩, μ2, xs ++ [.ref t], rs ++ [ρ], by rw [iv.md]; exact iv3.go gd ht5 hs14 nRd f6 m6 e1 e2 e3 e4 e5 e6 e7, by rw [List.length_append]; simp; omega⟩
      · walk_at "rdn"
        exact ⟨⟨_, _, _, rfl⟩, μ', xs, rs, by rw [iv.md]; exact iv3.more (by omega), by omega⟩
    · rintro σ H2 ⟨⟨u, v, w, rfl⟩, μ', xs, rs, iv, hli⟩
      walk_at "rdn"
      intro t ht
      exact k M t R xs rs _ (iv.sm.trans (Same.new ht)) upd_same (Same.new ht _ _ iv.hR) (RowAt.all iv.hx (Same.new ht)) h2 h5 iv.hg (by omega) (by rw [iv.hs]; exact iv.hk)
theorem ok_law_exchanged (T : Tx K mg) : FnOk P w K mg base CX0 2 T.f_law_exchanged T.d_law_exchanged ["rows", "pool"] (sp_law_exchanged K) := by
  refine T.F_law_exchanged.ok sc_law_exchanged (fun vs H Q E h => ?_) (fun cdv A outer s H vs Q E hr h => ?_)
  · rcases h with ⟨R, q, xs, rs, z, rfl, hR, hx, hl, hq, k⟩
    all_goals rfl
  · have hu := hu_of hr
    refine ⟨_, (pss_cons (ps_set (i := 2) sc_law_exchanged.nd rfl (Or.inl rfl) (pe_callTy (T := "list") (kx_list (K := K) rfl) (by rfl) T.z_list (by decide +kernel) (pa_cons (pv 0) (pa_nil))))
      (pss_cons (ps_for PassesOwn.never rfl (pi_range1 rfl T.z_range (pa_cons pe_int (pa_nil))) (pg_name (i := 3) sc_law_exchanged.nd rfl (Or.inl rfl))
      (pss_cons (ps_set (i := 4) sc_law_exchanged.nd rfl (Or.inl rfl) (pe_call (ok_law_take (P := P) T) (hr.mono (by decide)) rfl T.m_law_take T.k_law_take T.b_law_take .nil pass0 (pa_cons (pv 1) (pa_cons (pe_callB (id := "max") (call_maxA rfl) (by rfl) T.z_max (by decide +kernel) (pa_cons pe_int (pa_cons (pe_op op_sub (pe_callB (id := "len") (kx_len (K := K) rfl) (by rfl) T.z_len (by decide +kernel) (pa_cons (pv 2) (pa_nil))) pe_int) (pa_nil)))) (pa_nil)))))
      (pss_one (ps_if (PW.pt (pw_and (pt_cmpR op_lt (pe_op op_add (pv 4) pe_int) (pe_callB (id := "len") (kx_len (K := K) rfl) (by rfl) T.z_len (by decide +kernel) (pa_cons (pv 2) (pa_nil))) (nomark _)) (pw_and1 (pt_cmpR op_ne (pe_ix (ki_tup (K := K) rfl) (pe_ix (ki_list (K := K) rfl) (pv 2) (pv 4) (fun _ _ => rfl)) pe_int (fun _ _ => rfl)) (pe_ix (ki_tup (K := K) rfl) (pe_ix (ki_list (K := K) rfl) (pv 2) (pe_op op_add (pv 4) pe_int) (fun _ _ => rfl)) pe_int (fun _ _ => rfl)) (nomark _)))))
      (pss_one (ps_asg (pe_tup (pa_cons (pe_ix (ki_list (K := K) rfl) (pv 2) (pe_op op_add (pv 4) pe_int) (fun _ _ => rfl)) (pa_cons (pe_ix (ki_list (K := K) rfl) (pv 2) (pv 4) (fun _ _ => rfl)) (pa_nil)))) (kg_tup (K := K) (n := 2) rfl rfl (pgs_cons (pg_sub (pv 2) (pv 4) set_list) (pgs_cons (pg_sub (pv 2) (pe_op op_add (pv 4) pe_int) set_list) pgs_nil))))) pss_nil))))
      (pss_one (ps_ret (pv 2))))), ?_⟩
    rcases h with ⟨R, q, xs, rs, z, rfl, hR, hx, hl, hq, k⟩
    have nRq : R ≠ q := fun e => by
      rw [e, hq] at hR
      cases hR
      cases hx with
      | cons h _ => obtain ⟨_, _, w, _⟩ := h; cases w
    walk_at "rdn"
    intro l hl
    have nRl := ne_of_none hR hl
    have nql := ne_of_none hq hl
    have lx := hx.len
    walk_at "rdn"
    refine for_range (fun i σ H' => (∃ u v : Option V, σ = [some (.ref R), some (.ref q), some (.ref l), u, v]) ∧ (∀ b o, b ≠ q → b ≠ l → H b = some o → H' b = some o) ∧ (∃ z' : Int, H' q = some (.lst [.int z'])) ∧ ∃ ys os, H' l = some (.lst ys) ∧ All2 (RowAt H') ys os ∧ os.Perm rs ∧ ∀ kk, own os kk = own rs kk) ⟨⟨none, none, rfl⟩, fun b o n1 n2 e => (upd_ne n2).trans e, ⟨z, (upd_ne nql).trans hq⟩, xs, rs, upd_same, RowAt.all hx (Same.new hl), List.Perm.refl _, fun _ => rfl⟩ ?_ ?_
    · rintro i σ G hi ⟨⟨u, v, rfl⟩, gf, ⟨z2, gq⟩, ys, os, gl, gy, gp, go⟩
      have ly := gy.len
      have lp := gp.length_eq
      have hys : ys.length ≤ 100 := by omega
      obtain ⟨n, hn⟩ := Int.eq_ofNat_of_zero_le (Int.emod_nonneg z2 (show max 1 ((ys.length : Nat) - 1 : Int) ≠ 0 by omega))
      walk_at "rdn"
      rw [hn]
      have g1 : upd G q (.lst [.int (z2 / max 1 ((ys.length : Nat) - 1 : Int))]) q = some (.lst [.int (z2 / max 1 ((ys.length : Nat) - 1 : Int))]) := upd_same
      have nlq : l ≠ q := nql.symm
      have gl1 : upd G q (.lst [.int (z2 / max 1 ((ys.length : Nat) - 1 : Int))]) l = some (.lst ys) := (upd_ne nlq).trans gl
      have gf1 : ∀ b o, b ≠ q → b ≠ l → H b = some o → upd G q (.lst [.int (z2 / max 1 ((ys.length : Nat) - 1 : Int))]) b = some o := fun b o n1 n2 e => (upd_ne n1).trans (gf b o n1 n2 e)
      have gy1 : All2 (RowAt (upd G q (.lst [.int (z2 / max 1 ((ys.length : Nat) - 1 : Int))]))) ys os := gy.mono fun v ρ z => by
        obtain ⟨ok, t, e1, e2⟩ := z
        exact ⟨ok, t, e1, (upd_ne (fun w => by rw [w, gq] at e2; cases e2)).trans e2⟩
      generalize upd G q (.lst [.int (z2 / max 1 ((ys.length : Nat) - 1 : Int))]) = G1 at g1 gl1 gf1 gy1 ⊢
      clear gl gf gy gq
      refine q_ifx (fun h1 => ?_) (fun h1 => ?_)
      · obtain ⟨x1, hx1⟩ : ∃ x, ys[n]? = some x := ⟨_, List.getElem?_eq_getElem (by omega)⟩
        obtain ⟨x2, hx2⟩ : ∃ x, ys[n + 1]? = some x := ⟨_, List.getElem?_eq_getElem (by omega)⟩
        obtain ⟨ρ1, hρ1, ok1, t1, rfl, ht1⟩ := gy1.get hx1
        obtain ⟨ρ2, hρ2, ok2, t2, rfl, ht2⟩ := gy1.get hx2
        have a1 : atI ys (n : Int) = some (.ref t1) := atI_nat hx1
        have a2 : atI ys ((n : Int) + 1) = some (.ref t2) := atI_nat (j := n + 1) hx2
        walk_at "rdn"
        refine q_ixT (SqT.of ht1) RowD.at1 ?_
        walk_at "rdn"
        refine q_ixT (SqT.of ht2) RowD.at1 ?_
        walk_at "rdn"
        refine q_ifx (fun h2 => ?_) (fun h2 => ?_)
        · walk_at "rdn"
          exact ⟨⟨_, _, rfl⟩, gf1, ⟨_, g1⟩, ys, os, gl1, gy1, gp, go⟩
        · walk_at "rdn"
          intro p hp
          have nlp := ne_of_none gl1 hp
          have nqp := ne_of_none g1 hp
          walk_at "rdn"
          refine q_setL (j := n + 1) upd_same (ixN_at (j := n + 1) (by rw [List.length_set]; omega)) ?_
          walk_at "rdn"
          have nlst : ∀ b o, b ≠ l → G1 b = some o → upd (upd (upd G1 p (.tup [.ref t2, .ref t1])) l (.lst (ys.set n (.ref t2)))) l (.lst ((ys.set n (.ref t2)).set (n + 1) (.ref t1))) b = some o := fun b o n e => (upd_ne n).trans ((upd_ne n).trans ((Same.new hp) _ _ e))
          have nt1 : t1 ≠ l := fun w => by rw [w, gl1] at ht1; cases ht1
          have nt2 : t2 ≠ l := fun w => by rw [w, gl1] at ht2; cases ht2
          have base : All2 (RowAt (upd (upd (upd G1 p (.tup [.ref t2, .ref t1])) l (.lst (ys.set n (.ref t2)))) l (.lst ((ys.set n (.ref t2)).set (n + 1) (.ref t1))))) ys os := gy1.mono fun v ρ z => by
            obtain ⟨ok, t, e1, e2⟩ := z
            exact ⟨ok, t, e1, nlst _ _ (fun w => by rw [w, gl1] at e2; cases e2) e2⟩
          exact ⟨⟨_, _, rfl⟩, fun b o n1 n2 e => nlst _ _ n2 (gf1 b o n1 n2 e), ⟨_, nlst _ _ nql g1⟩, _, (os.set n ρ2).set (n + 1) ρ1, upd_same, (base.set ⟨ok2, t2, rfl, nlst _ _ nt2 ht2⟩).set ⟨ok1, t1, rfl, nlst _ _ nt1 ht1⟩, (swap_perm hρ1 hρ2).trans gp, fun kk => (swap_own hρ1 hρ2 h2 kk).trans (go kk)⟩
      · walk_at "rdn"
        exact ⟨⟨_, _, rfl⟩, gf1, ⟨_, g1⟩, ys, os, gl1, gy1, gp, go⟩
    · rintro σ G ⟨⟨u, v, rfl⟩, gf, ⟨z2, gq⟩, ys, os, gl, gy, gp, go⟩
      walk_at "rdn"
      exact k l ys os z2 G (fun b o nb e => gf b o nb (ne_of_none e hl) e) gq hl gl gy gp go
theorem ok_law_changed (T : Tx K mg) : FnOk P w K mg base CX0 2 T.f_law_changed T.d_law_changed ["rows", "members", "pool"] (sp_law_changed K) := by
  refine T.F_law_changed.ok sc_law_changed (fun vs H Q E h => ?_) (fun cdv A outer s H vs Q E hr h => ?_)
  · rcases h with ⟨R, q, xs, rs, M, z, rfl, hR, hx, hl, hg, h2, h5, hq, nq, k⟩
    all_goals rfl
  · have hu := hu_of hr
    refine ⟨_, (pss_cons (ps_set (i := 3) sc_law_changed.nd rfl (Or.inl rfl) (pe_call (ok_law_take (P := P) T) (hr.mono (by decide)) rfl T.m_law_take T.k_law_take T.b_law_take .nil pass0 (pa_cons (pv 2) (pa_cons pe_int (pa_nil)))))
      (pss_cons (ps_set (i := 4) sc_law_changed.nd rfl (Or.inl rfl) (pe_call (ok_law_take (P := P) T) (hr.mono (by decide)) rfl T.m_law_take T.k_law_take T.b_law_take .nil pass0 (pa_cons (pv 2) (pa_cons (pe_callB (id := "max") (call_maxA rfl) (by rfl) T.z_max (by decide +kernel) (pa_cons pe_int (pa_cons (pe_callB (id := "len") (kx_len (K := K) rfl) (by rfl) T.z_len (by decide +kernel) (pa_cons (pv 0) (pa_nil))) (pa_nil)))) (pa_nil)))))
      (pss_cons (ps_if (pt_cmpR (ko_eqD (K := K) rfl hr.units) (pv 0) (pe_lst pa_nil) (nomark _))
      (pss_one (ps_ret (pe_lst (pa_cons (pe_tup (pa_cons pe_str (pa_cons (pe_op op_sub (pv 1) pe_int) (pa_cons pe_int (pa_cons pe_int (pa_nil)))))) (pa_nil))))) pss_nil)
      (pss_cons (ps_set (i := 5) sc_law_changed.nd rfl (Or.inl rfl) (pe_ix (ki_list (K := K) rfl) (pv 0) (pv 4) (fun _ _ => rfl)))
      (pss_cons (ps_if (pt_cmpR op_eq (pv 3) pe_int (nomark _))
      (pss_one (ps_ret (pe_op op_cat (pe_slice (ks_list (K := K) rfl) (pv 0) po_none (po_some (pv 4))) (pe_slice (ks_list (K := K) rfl) (pv 0) (po_some (pe_op op_add (pv 4) pe_int)) po_none)))) pss_nil)
      (pss_cons (ps_if (PW.pt (pw_and (pt_cmpR op_eq (pv 3) pe_int (nomark _)) (pw_and1 (pt_cmpR op_ne (pe_ix (ki_tup (K := K) rfl) (pv 5) pe_int (fun _ _ => rfl)) pe_str (nomark _)))))
      (pss_one (ps_ret (pe_op op_cat (pe_op op_cat (pe_slice (ks_list (K := K) rfl) (pv 0) po_none (po_some (pv 4))) (pe_lst (pa_cons (pv 5) (pa_nil)))) (pe_slice (ks_list (K := K) rfl) (pv 0) (po_some (pv 4)) po_none)))) pss_nil)
      (pss_cons (ps_if (pt_cmpR op_eq (pv 3) pe_int (nomark _))
      (pss_one (ps_ret (pe_op op_cat (pe_op op_cat (pe_slice (ks_list (K := K) rfl) (pv 0) po_none (po_some (pv 4))) (pe_lst (pa_cons (pe_tup (pa_cons pe_str (pa_cons (pe_ix (ki_tup (K := K) rfl) (pv 5) pe_int (fun _ _ => rfl)) (pa_cons pe_int (pa_cons (pe_op op_add pe_int (pv 4)) (pa_nil)))))) (pa_nil)))) (pe_slice (ks_list (K := K) rfl) (pv 0) (po_some (pe_op op_add (pv 4) pe_int)) po_none)))) pss_nil)
      (pss_one (ps_ret (pe_op op_cat (pe_op op_cat (pe_slice (ks_list (K := K) rfl) (pv 0) po_none (po_some (pv 4))) (pe_lst (pa_cons (pe_op (ko_catT (K := K) rfl) (pe_op (ko_catT (K := K) rfl) (pe_slice (ks_tup (K := K) rfl) (pv 5) po_none (po_some pe_int)) (pe_tup (pa_cons (pe_op op_mod (pe_op op_add (pe_ix (ki_tup (K := K) rfl) (pv 5) pe_int (fun _ _ => rfl)) pe_int) (pv 1)) (pa_nil)))) (pe_slice (ks_tup (K := K) rfl) (pv 5) (po_some pe_int) po_none)) (pa_nil)))) (pe_slice (ks_list (K := K) rfl) (pv 0) (po_some (pe_op op_add (pv 4) pe_int)) po_none))))))))))), ?_⟩
    rcases h with ⟨R, q, xs, rs, M, z, rfl, hR, hx, hl, hg, h2, h5, hq, nq, k⟩
    have lx := hx.len
    have nRq := nq
    have f1 : Fr1 q H (upd (upd H q (.lst [.int (z / 4)])) q (.lst [.int (z / 4 / max 1 ((xs.length : Nat) : Int))])) := fun b o nb e => (upd_ne nb).trans ((upd_ne nb).trans e)
    have g1 : upd (upd H q (.lst [.int (z / 4)])) q (.lst [.int (z / 4 / max 1 ((xs.length : Nat) : Int))]) q = some (.lst [.int (z / 4 / max 1 ((xs.length : Nat) : Int))]) := upd_same
    obtain ⟨n, hn⟩ := Int.eq_ofNat_of_zero_le (Int.emod_nonneg (z / 4) (show max 1 ((xs.length : Nat) : Int) ≠ 0 by omega))
    have hnl := Int.emod_lt_of_pos (z / 4) (show 0 < max 1 ((xs.length : Nat) : Int) by omega)
    rw [hn] at hnl
    walk_at "rdn"
    rw [hn]
    generalize upd (upd H q (.lst [.int (z / 4)])) q (.lst [.int (z / 4 / max 1 ((xs.length : Nat) : Int))]) = G at f1 g1 ⊢
    have hR1 := f1 _ _ nq hR
    have hx1 := (fr1_keep f1).rows (fun b hb => by rw [List.mem_singleton.mp hb]; exact ⟨_, hq⟩) hx
    have hwy0 := Int.emod_nonneg z (show (4 : Int) ≠ 0 by decide)
    generalize z % 4 = wy at hwy0 ⊢
    have fin : ∀ (l : Addr) (ys : List V) (os : List RowD) (G' : Hp), Same G G' → G l = none → G' l = some (.lst ys) → All2 (RowAt G') ys os → (∀ ρ ∈ os, ρ.Good M) → os.length ≤ rs.length + 1 → nSent os ≤ nSent rs → Q (.ref l) G' := fun l ys os G' s1 e1 e2 e3 e4 e5 e6 => k l ys os _ G' (fun b o nb e => s1 _ _ (f1 b o nb e)) (s1 _ _ g1) (by
      cases hl2 : H l with
      | none => rfl
      | some o =>
        by_cases hlq : l = q
        · rw [hlq, g1] at e1
          cases e1
        · rw [f1 _ _ hlq hl2] at e1
          cases e1) e2 e3 e4 e5 e6
    intro p hp
    have S1 : Same G (upd G p (.lst [])) := Same.new hp
    have ep : upd G p (.lst []) p = some (.lst []) := upd_same
    generalize upd G p (.lst []) = G1 at S1 ep ⊢
    have hR1 := S1 _ _ hR1
    have hx1 := RowAt.all hx1 S1
    refine q_eqRows (SqL.of hR1) hx1 (SqL.of ep) .nil ?_
    walk_at "rdn"
    refine q_ifx (fun he => ?_) (fun he => ?_)
    · walk_at "rdn"
      intro p1 hp1
      walk_at "rdn"
      intro p2 hp2
      walk_at "rdn"
      have gd : (RowD.got (M - 1) 0 1).Good M := ⟨by omega, by omega, by omega, by omega, by omega⟩
      exact fin p2 _ [.got (M - 1) 0 1] _ (S1.trans ((Same.new hp1).trans (Same.new hp2))) (S1.free (upd_free hp2)) upd_same (.cons (RowAt.of gd ((upd_ne (by walk_at "ne")).trans upd_same)) .nil) (fun ρ hρ => by rw [List.mem_singleton.mp hρ]; exact gd) (by simp) (Nat.zero_le _)
    · have hpos : 0 < rs.length := List.length_pos_iff.mpr he
      have hnlt : n < xs.length := by omega
      obtain ⟨x1, hx1'⟩ : ∃ x, xs[n]? = some x := ⟨_, List.getElem?_eq_getElem hnlt⟩
      obtain ⟨ρ, hρ, ok, t, rfl, ht⟩ := hx1.get hx1'
      have gd := hg ρ (List.mem_of_getElem? hρ)
      have a1 : atI xs (n : Int) = some (.ref t) := atI_nat hx1'
      have hdec := row_dec hρ
      have hsn : nSent rs = nSent (rs.take n) + ((if ρ.isSent = true then 1 else 0) + nSent (rs.drop (n + 1))) := by
        have := congrArg nSent hdec
        rw [nSent_app, nSent_app, nSent_one] at this
        exact this
      have hln : rs.length = (rs.take n).length + (1 + (rs.drop (n + 1)).length) := by
        have := congrArg List.length hdec
        rw [List.length_append, List.length_append] at this
        exact this
      have hA := hx1.take n
      have hB := hx1.drop (n + 1)
      have gA : ∀ τ ∈ rs.take n, τ.Good M := fun τ h => hg τ (List.mem_of_mem_take h)
      have gB : ∀ τ ∈ rs.drop (n + 1), τ.Good M := fun τ h => hg τ (List.mem_of_mem_drop h)
      have e1 : cutV xs none (some (n : Int)) = xs.take n := cut_pre (by omega)
      have e2 : cutV xs (some ((n : Int) + 1)) none = xs.drop (n + 1) := cut_suf (k := n + 1) (by omega)
      have e3 : cutV xs (some (n : Int)) none = xs.drop n := cut_suf (by omega)
      have hC := hx1.drop n
      have gC : ∀ τ ∈ rs.drop n, τ.Good M := fun τ h => hg τ (List.mem_of_mem_drop h)
      have eC : rs.drop n = [ρ] ++ rs.drop (n + 1) := by
        obtain ⟨hn2, e⟩ := List.getElem?_eq_some_iff.mp hρ
        rw [List.drop_eq_getElem_cons hn2, e]
        rfl
      have la : (xs.take n).length ≤ 100 := by rw [List.length_take]; omega
      have lb : (xs.drop (n + 1)).length ≤ 100 := by rw [List.length_drop]; omega
      have lc : (xs.drop n).length ≤ 100 := by rw [List.length_drop]; omega
      have fin2 : ∀ (l : Addr) (ys : List V) (os : List RowD) (G' : Hp), Same G1 G' → G1 l = none → G' l = some (.lst ys) → All2 (RowAt G') ys os → (∀ ρ ∈ os, ρ.Good M) → os.length ≤ rs.length + 1 → nSent os ≤ nSent rs → Q (.ref l) G' := fun l ys os G' s1 e1 => fin l ys os G' (S1.trans s1) (S1.free e1)
      by_cases w0 : wy = 0
      · walk_at "rdn"
        intro a1 ha1
        rw [e1]
        walk_at "rdn"
        intro a2 ha2
        rw [e2]
        have n12 : a1 ≠ a2 := by walk_at "ne"
        walk_at "rdn"
        intro a3 ha3
        have S : Same G1 (upd (upd (upd G1 a1 (.lst (xs.take n))) a2 (.lst (xs.drop (n + 1)))) a3 (.lst (xs.take n ++ xs.drop (n + 1)))) := ((Same.new ha1).trans (Same.new ha2)).trans (Same.new ha3)
        exact fin2 a3 _ (rs.take n ++ rs.drop (n + 1)) _ S (upd_free (upd_free ha3)) upd_same ((RowAt.all hA S).app (RowAt.all hB S)) (fun τ h => (List.mem_append.mp h).elim (gA τ) (gB τ)) (by rw [List.length_append]; omega) (by rw [nSent_app]; omega)
      · have w0' : ¬ wy = 0 := w0
        by_cases w1 : wy = 1 ∧ ρ.isSent = false
        · obtain ⟨w1, hns⟩ := w1
          have hkd : ¬ (ρ.kind = Str.ofString "sent") := fun w => by
            have := RowD.kind_sent (ρ := ρ)
            rw [decide_eq_true w, hns] at this
            cases this
          walk_at "rdn"
          refine q_ixT (SqT.of ht) RowD.at0 ?_
          walk_at "rdn"
          intro a1 ha1
          rw [e1]
          walk_at "rdn"
          intro a2 ha2
          have n12 : a1 ≠ a2 := by walk_at "ne"
          walk_at "rdn"
          intro a3 ha3
          have l4 : (xs.take n ++ [V.ref t]).length ≤ 101 := by rw [List.length_append]; simp only [List.length_cons, List.length_nil]; omega
          have nR1 : R ≠ a1 := ne_of_none hR1 ha1
          have nR2 : R ≠ a2 := ne_of_none hR1 (upd_free ha2)
          have nR3 : R ≠ a3 := ne_of_none hR1 (upd_free (upd_free ha3))
          walk_at "rdn"
          intro a4 ha4
          rw [e3]
          have n34 : a3 ≠ a4 := by walk_at "ne"
          walk_at "rdn"
          intro a5 ha5
          have S : Same G1 (upd (upd (upd (upd (upd G1 a1 (.lst (xs.take n))) a2 (.lst [.ref t])) a3 (.lst (xs.take n ++ [.ref t]))) a4 (.lst (xs.drop n))) a5 (.lst (xs.take n ++ [.ref t] ++ xs.drop n))) := ((((Same.new ha1).trans (Same.new ha2)).trans (Same.new ha3)).trans (Same.new ha4)).trans (Same.new ha5)
          refine fin2 a5 _ (rs.take n ++ [ρ] ++ rs.drop n) _ S (upd_free (upd_free (upd_free (upd_free ha5)))) upd_same (((RowAt.all hA S).app (.cons ⟨ok, t, rfl, S _ _ ht⟩ .nil)).app (RowAt.all hC S)) (fun τ h => ?_) (by rw [List.length_append, List.length_append, eC, List.length_append]; simp only [List.length_cons, List.length_nil]; omega) (by rw [nSent_app, nSent_app, nSent_one, eC, nSent_app, nSent_one, hsn, hns]; simp)
          rcases List.mem_append.mp h with h | h
          · rcases List.mem_append.mp h with h | h
            · exact gA τ h
            · rw [List.mem_singleton.mp h]; exact gd
          · exact gC τ h
        · have hk1 : ∀ (σ0 : L2.St), σ0 = [some (.ref R), some (.int M), some (.ref q), some (.int wy), some (.int (n : Nat)), some (.ref t)] → True := fun _ _ => trivial
          have hkd : wy = 1 → ρ.kind = Str.ofString "sent" := fun w => by
            have e := RowD.kind_sent (ρ := ρ)
            cases hs : ρ.isSent with
            | false => exact absurd ⟨w, hs⟩ w1
            | true => rw [hs] at e; exact of_decide_eq_true e
          have gmem := gd.mem
          by_cases w2 : wy = 2
          · walk_at "rdn"
            intro a1 ha1
            rw [e1]
            walk_at "rdn"
            refine q_ixT (SqT.of ((upd_ne (ne_of_none ht ha1)).trans ht)) RowD.at1 ?_
            walk_at "rdn"
            intro b5 hb5
            have gd2 : (RowD.got ρ.mem 0 (1 + (n : Nat))).Good M := ⟨gmem.1, gmem.2, by omega, by omega, by omega⟩
            have ST : Same G1 (upd (upd G1 a1 (.lst (xs.take n))) b5 (.tup [.str "got", .int ρ.mem, .int 0, .int (1 + (n : Nat))])) := (Same.new ha1).trans (Same.new hb5)
            have f7 : upd (upd G1 a1 (.lst (xs.take n))) b5 (.tup [.str "got", .int ρ.mem, .int 0, .int (1 + (n : Nat))]) a1 = some (.lst (xs.take n)) := by walk_at "lk"
            have g5' : upd (upd G1 a1 (.lst (xs.take n))) b5 (.tup [.str "got", .int ρ.mem, .int 0, .int (1 + (n : Nat))]) b5 = some (.tup (RowD.got ρ.mem 0 (1 + (n : Nat))).vs) := upd_same
            generalize upd (upd G1 a1 (.lst (xs.take n))) b5 (.tup [.str "got", .int ρ.mem, .int 0, .int (1 + (n : Nat))]) = G7 at ST f7 g5' ⊢
            have hR7 := ST _ _ hR1
            walk_at "rdn"
            intro c1 hc1
            have n17 : a1 ≠ c1 := ne_of_none f7 hc1
            walk_at "rdn"
            intro c2 hc2
            have l4 : (xs.take n ++ [V.ref b5]).length ≤ 101 := by rw [List.length_append]; simp only [List.length_cons, List.length_nil]; omega
            have nR1 : R ≠ c1 := ne_of_none hR7 hc1
            have nR2 : R ≠ c2 := ne_of_none hR7 (upd_free hc2)
            walk_at "rdn"
            intro c3 hc3
            rw [e2]
            have n34 : c2 ≠ c3 := by walk_at "ne"
            walk_at "rdn"
            intro c4 hc4
            have S : Same G7 (upd (upd (upd (upd G7 c1 (.lst [.ref b5])) c2 (.lst (xs.take n ++ [.ref b5]))) c3 (.lst (xs.drop (n + 1)))) c4 (.lst (xs.take n ++ [.ref b5] ++ xs.drop (n + 1)))) := (((Same.new hc1).trans (Same.new hc2)).trans (Same.new hc3)).trans (Same.new hc4)
            have S8 := ST.trans S
            refine fin2 c4 _ (rs.take n ++ [RowD.got ρ.mem 0 (1 + (n : Nat))] ++ rs.drop (n + 1)) _ S8 (ST.free (upd_free (upd_free (upd_free hc4)))) upd_same (((RowAt.all hA S8).app (.cons (RowAt.of gd2 (S _ _ g5')) .nil)).app (RowAt.all hB S8)) (fun τ h => ?_) (by rw [List.length_append, List.length_append]; simp only [List.length_cons, List.length_nil]; omega) (by rw [nSent_app, nSent_app, nSent_one, hsn]; simp [RowD.isSent])
            rcases List.mem_append.mp h with h | h
            · rcases List.mem_append.mp h with h | h
              · exact gA τ h
              · rw [List.mem_singleton.mp h]; exact gd2
            · exact gB τ h
          · by_cases w3 : wy = 1
            · have hkd := hkd w3
              walk_at "rdn"
              refine q_ixT (SqT.of ht) RowD.at0 ?_
              rw [hkd]
              walk_at "rdn"
              intro a1 ha1
              rw [e1]
              have S1' : Same G1 (upd G1 a1 (.lst (xs.take n))) := Same.new ha1
              have f1' : upd G1 a1 (.lst (xs.take n)) a1 = some (.lst (xs.take n)) := upd_same
              have z1' := ha1
              generalize upd G1 a1 (.lst (xs.take n)) = G2 at S1' f1' ⊢
              have ht2 := S1' _ _ ht
              have hR2 := S1' _ _ hR1
              walk_at "rdn"
              refine q_slTe (SqT.of ht2) RowD.cutn1 RowD.cut1 ?_
              intro b1 hb1
              have S2' : Same G2 (upd G2 b1 (.tup [.str ρ.kind])) := Same.new hb1
              have g1' : upd G2 b1 (.tup [.str ρ.kind]) b1 = some (.tup [.str ρ.kind]) := upd_same
              generalize upd G2 b1 (.tup [.str ρ.kind]) = G3 at S2' g1' ⊢
              have ht3 := S2' _ _ ht2
              have hR3 := S2' _ _ hR2
              walk_at "rdn"
              refine q_ixT (SqT.of ht3) RowD.at1 ?_
              walk_at "rdn"
              intro b2 hb2
              have S3' : Same G3 (upd G3 b2 (.tup [.int ((ρ.mem + 1) % M)])) := Same.new hb2
              have g2' : upd G3 b2 (.tup [.int ((ρ.mem + 1) % M)]) b2 = some (.tup [.int ((ρ.mem + 1) % M)]) := upd_same
              have g1'' := S3' _ _ g1'
              generalize upd G3 b2 (.tup [.int ((ρ.mem + 1) % M)]) = G4 at S3' g1'' g2' ⊢
              have ht4 := S3' _ _ ht3
              have hR4 := S3' _ _ hR3
              walk_at "rdn"
              refine q_catT (SqT.of g1'') (SqT.of g2') (by simp) (by simp) (by simp) ?_
              intro b3 hb3
              have S4' : Same G4 (upd G4 b3 (.tup ([.str ρ.kind] ++ [.int ((ρ.mem + 1) % M)]))) := Same.new hb3
              have g3' : upd G4 b3 (.tup ([.str ρ.kind] ++ [.int ((ρ.mem + 1) % M)])) b3 = some (.tup ([.str ρ.kind] ++ [.int ((ρ.mem + 1) % M)])) := upd_same
              generalize upd G4 b3 (.tup ([.str ρ.kind] ++ [.int ((ρ.mem + 1) % M)])) = G5 at S4' g3' ⊢
              have ht5 := S4' _ _ ht4
              have hR5 := S4' _ _ hR4
              walk_at "rdn"
              refine q_slTe (SqT.of ht5) RowD.cutn2 RowD.cut2 ?_
              intro b4 hb4
              have S5' : Same G5 (upd G5 b4 (.tup (ρ.vs.drop 2))) := Same.new hb4
              have g4' : upd G5 b4 (.tup (ρ.vs.drop 2)) b4 = some (.tup (ρ.vs.drop 2)) := upd_same
              have g3'' := S5' _ _ g3'
              generalize upd G5 b4 (.tup (ρ.vs.drop 2)) = G6 at S5' g3'' g4' ⊢
              have hR6 := S5' _ _ hR5
              walk_at "rdn"
              refine q_catT (SqT.of g3'') (SqT.of g4') (by simp) RowD.drop2 (by have := RowD.len5 (ρ := ρ); simp only [List.length_append, List.length_cons, List.length_nil]; omega) ?_
              intro b5 hb5
              rw [RowD.join]
              have S6' : Same G6 (upd G6 b5 (.tup (ρ.setM ((ρ.mem + 1) % M)).vs)) := Same.new hb5
              have g5' : upd G6 b5 (.tup (ρ.setM ((ρ.mem + 1) % M)).vs) b5 = some (.tup (ρ.setM ((ρ.mem + 1) % M)).vs) := upd_same
              generalize upd G6 b5 (.tup (ρ.setM ((ρ.mem + 1) % M)).vs) = G7 at S6' g5' ⊢
              have hR7 := S6' _ _ hR6
              have ST := ((((S1'.trans S2').trans S3').trans S4').trans S5').trans S6'
              have f7 := (((((S2'.trans S3').trans S4').trans S5').trans S6')) _ _ f1'
              have gd2 : (ρ.setM ((ρ.mem + 1) % M)).Good M := gd.setM (Int.emod_nonneg _ (by omega)) (by have := Int.emod_lt_of_pos (ρ.mem + 1) (show 0 < M by omega); omega)
              walk_at "rdn"
              intro c1 hc1
              have n17 : a1 ≠ c1 := ne_of_none f7 hc1
              walk_at "rdn"
              intro c2 hc2
              have l4 : (xs.take n ++ [V.ref b5]).length ≤ 101 := by rw [List.length_append]; simp only [List.length_cons, List.length_nil]; omega
              have nR1 : R ≠ c1 := ne_of_none hR7 hc1
              have nR2 : R ≠ c2 := ne_of_none hR7 (upd_free hc2)
              walk_at "rdn"
              intro c3 hc3
              rw [e2]
              have n34 : c2 ≠ c3 := by walk_at "ne"
              walk_at "rdn"
              intro c4 hc4
              have S : Same G7 (upd (upd (upd (upd G7 c1 (.lst [.ref b5])) c2 (.lst (xs.take n ++ [.ref b5]))) c3 (.lst (xs.drop (n + 1)))) c4 (.lst (xs.take n ++ [.ref b5] ++ xs.drop (n + 1)))) := (((Same.new hc1).trans (Same.new hc2)).trans (Same.new hc3)).trans (Same.new hc4)
              have S8 := ST.trans S
              refine fin2 c4 _ (rs.take n ++ [ρ.setM ((ρ.mem + 1) % M)] ++ rs.drop (n + 1)) _ S8 (ST.free (upd_free (upd_free (upd_free hc4)))) upd_same (((RowAt.all hA S8).app (.cons (RowAt.of gd2 (S _ _ g5')) .nil)).app (RowAt.all hB S8)) (fun τ h => ?_) (by rw [List.length_append, List.length_append]; simp only [List.length_cons, List.length_nil]; omega) (by rw [nSent_app, nSent_app, nSent_one, setM_sent, hsn]; omega)
              rcases List.mem_append.mp h with h | h
              · rcases List.mem_append.mp h with h | h
                · exact gA τ h
                · rw [List.mem_singleton.mp h]; exact gd2
              · exact gB τ h
            · walk_at "rdn"
              intro a1 ha1
              rw [e1]
              have S1' : Same G1 (upd G1 a1 (.lst (xs.take n))) := Same.new ha1
              have f1' : upd G1 a1 (.lst (xs.take n)) a1 = some (.lst (xs.take n)) := upd_same
              have z1' := ha1
              generalize upd G1 a1 (.lst (xs.take n)) = G2 at S1' f1' ⊢
              have ht2 := S1' _ _ ht
              have hR2 := S1' _ _ hR1
              walk_at "rdn"
              refine q_slTe (SqT.of ht2) RowD.cutn1 RowD.cut1 ?_
              intro b1 hb1
              have S2' : Same G2 (upd G2 b1 (.tup [.str ρ.kind])) := Same.new hb1
              have g1' : upd G2 b1 (.tup [.str ρ.kind]) b1 = some (.tup [.str ρ.kind]) := upd_same
              generalize upd G2 b1 (.tup [.str ρ.kind]) = G3 at S2' g1' ⊢
              have ht3 := S2' _ _ ht2
              have hR3 := S2' _ _ hR2
              walk_at "rdn"
              refine q_ixT (SqT.of ht3) RowD.at1 ?_
              walk_at "rdn"
              intro b2 hb2
              have S3' : Same G3 (upd G3 b2 (.tup [.int ((ρ.mem + 1) % M)])) := Same.new hb2
              have g2' : upd G3 b2 (.tup [.int ((ρ.mem + 1) % M)]) b2 = some (.tup [.int ((ρ.mem + 1) % M)]) := upd_same
              have g1'' := S3' _ _ g1'
              generalize upd G3 b2 (.tup [.int ((ρ.mem + 1) % M)]) = G4 at S3' g1'' g2' ⊢
              have ht4 := S3' _ _ ht3
              have hR4 := S3' _ _ hR3
              walk_at "rdn"
              refine q_catT (SqT.of g1'') (SqT.of g2') (by simp) (by simp) (by simp) ?_
              intro b3 hb3
              have S4' : Same G4 (upd G4 b3 (.tup ([.str ρ.kind] ++ [.int ((ρ.mem + 1) % M)]))) := Same.new hb3
              have g3' : upd G4 b3 (.tup ([.str ρ.kind] ++ [.int ((ρ.mem + 1) % M)])) b3 = some (.tup ([.str ρ.kind] ++ [.int ((ρ.mem + 1) % M)])) := upd_same
              generalize upd G4 b3 (.tup ([.str ρ.kind] ++ [.int ((ρ.mem + 1) % M)])) = G5 at S4' g3' ⊢
              have ht5 := S4' _ _ ht4
              have hR5 := S4' _ _ hR4
              walk_at "rdn"
              refine q_slTe (SqT.of ht5) RowD.cutn2 RowD.cut2 ?_
              intro b4 hb4
              have S5' : Same G5 (upd G5 b4 (.tup (ρ.vs.drop 2))) := Same.new hb4
              have g4' : upd G5 b4 (.tup (ρ.vs.drop 2)) b4 = some (.tup (ρ.vs.drop 2)) := upd_same
              have g3'' := S5' _ _ g3'
              generalize upd G5 b4 (.tup (ρ.vs.drop 2)) = G6 at S5' g3'' g4' ⊢
              have hR6 := S5' _ _ hR5
              walk_at "rdn"
              refine q_catT (SqT.of g3'') (SqT.of g4') (by simp) RowD.drop2 (by have := RowD.len5 (ρ := ρ); simp only [List.length_append, List.length_cons, List.length_nil]; omega) ?_
              intro b5 hb5
              rw [RowD.join]
              have S6' : Same G6 (upd G6 b5 (.tup (ρ.setM ((ρ.mem + 1) % M)).vs)) := Same.new hb5
              have g5' : upd G6 b5 (.tup (ρ.setM ((ρ.mem + 1) % M)).vs) b5 = some (.tup (ρ.setM ((ρ.mem + 1) % M)).vs) := upd_same
              generalize upd G6 b5 (.tup (ρ.setM ((ρ.mem + 1) % M)).vs) = G7 at S6' g5' ⊢
              have hR7 := S6' _ _ hR6
              have ST := ((((S1'.trans S2').trans S3').trans S4').trans S5').trans S6'
              have f7 := (((((S2'.trans S3').trans S4').trans S5').trans S6')) _ _ f1'
              have gd2 : (ρ.setM ((ρ.mem + 1) % M)).Good M := gd.setM (Int.emod_nonneg _ (by omega)) (by have := Int.emod_lt_of_pos (ρ.mem + 1) (show 0 < M by omega); omega)
              walk_at "rdn"
              intro c1 hc1
              have n17 : a1 ≠ c1 := ne_of_none f7 hc1
              walk_at "rdn"
              intro c2 hc2
              have l4 : (xs.take n ++ [V.ref b5]).length ≤ 101 := by rw [List.length_append]; simp only [List.length_cons, List.length_nil]; omega
              have nR1 : R ≠ c1 := ne_of_none hR7 hc1
              have nR2 : R ≠ c2 := ne_of_none hR7 (upd_free hc2)
              walk_at "rdn"
              intro c3 hc3
              rw [e2]
              have n34 : c2 ≠ c3 := by walk_at "ne"
              walk_at "rdn"
              intro c4 hc4
              have S : Same G7 (upd (upd (upd (upd G7 c1 (.lst [.ref b5])) c2 (.lst (xs.take n ++ [.ref b5]))) c3 (.lst (xs.drop (n + 1)))) c4 (.lst (xs.take n ++ [.ref b5] ++ xs.drop (n + 1)))) := (((Same.new hc1).trans (Same.new hc2)).trans (Same.new hc3)).trans (Same.new hc4)
              have S8 := ST.trans S
              refine fin2 c4 _ (rs.take n ++ [ρ.setM ((ρ.mem + 1) % M)] ++ rs.drop (n + 1)) _ S8 (ST.free (upd_free (upd_free (upd_free hc4)))) upd_same (((RowAt.all hA S8).app (.cons (RowAt.of gd2 (S _ _ g5')) .nil)).app (RowAt.all hB S8)) (fun τ h => ?_) (by rw [List.length_append, List.length_append]; simp only [List.length_cons, List.length_nil]; omega) (by rw [nSent_app, nSent_app, nSent_one, setM_sent, hsn]; omega)
              rcases List.mem_append.mp h with h | h
              · rcases List.mem_append.mp h with h | h
                · exact gA τ h
                · rw [List.mem_singleton.mp h]; exact gd2
              · exact gB τ h
theorem ok_law_own (T : Tx K mg) : FnOk P w K mg base CX0 1 T.f_law_own T.d_law_own ["rows", "member"] (sp_law_own K) := by
  refine T.F_law_own.ok sc_law_own (fun vs H Q E h => ?_) (fun cdv A outer s H vs Q E hr h => ?_)
  · rcases h with ⟨a, xs, rs, kk, rfl, ha, hx, hl, k⟩
    all_goals rfl
  · have hu := hu_of hr
    refine ⟨_, (pss_one (ps_ret (pe_lc (own := [("row", 2)]) (g := gName 2) rfl sc_law_own.nd (kpi_list (K := K) rfl (pv 0)) (blkOk_by (own := [("row", 2)]) (N := ["rows", "member", "row"]) (sc := defScope s_law_own) (by decide +kernel)) (fun _ _ _ _ _ => (pg_name (i := 2) sc_law_own.nd rfl (Or.inl rfl))) (fun _ _ _ _ _ => (pts_one (pt_cmpR op_eq (pe_ix (ki_tup (K := K) rfl) (pv 2) pe_int (fun _ _ => rfl)) (pv 1) (nomark _)))) (fun _ _ _ _ _ => (pv 2))))), ?_⟩
    rcases h with ⟨a, xs, rs, kk, rfl, ha, hx, hl, k⟩
    walk_at "rdn"
    intro D hD
    refine lc_any walk_list (fun i ys _ => All2 (RowAt H) ys (own (rs.take i) kk)) (by omega) (fun _ _ _ _ h _ => h) (fun _ _ _ _ h => h) .nil (fun H' s => SqL.up s ha) hD ?_ ?_ gName_m tTestIx_m
    · rintro i v ys B1 B2 R R2 hi s6 hP hDB ⟨rfl, hv⟩ hR hR2
      obtain ⟨ρ, hρ, ok, t, rfl, ht⟩ := hx.get hv
      have ht' := s6 _ _ ht
      refine ⟨wipe_set, ?_⟩
      walk_at "rdn"
      refine q_ixT (SqT.of ht') RowD.at1 ?_
      walk_at "rdn"
      refine ⟨hR _ _ (Same.refl _) (fun hb => by rw [own_stepF hρ hb]; exact hP), fun hb => ?_⟩
      walk_at "rdn"
      exact hR2 _ _ (Same.refl _) (by rw [own_stepT hρ hb]; exact hP.snoc ⟨ok, t, rfl, ht⟩)
    · intro ys B1 s6 hP hD3
      walk_at "rdn"
      rw [List.take_of_length_le (by rw [hx.len]; exact Nat.le_refl _)] at hP
      exact k D ys _ s6 hD3 (RowAt.all hP s6)
theorem ok_law_right (T : Tx K mg) : FnOk P w K mg base CX0 8 T.f_law_right T.d_law_right ["members", "rows", "others"] (sp_law_right K) := by
  refine T.F_law_right.ok sc_law_right (fun vs H Q E h => ?_) (fun cdv A outer s H vs Q E hr h => ?_)
  · rcases h with ⟨a, b, xs, ys, rs, os, M, rfl, h2, h5, ha, hx, hg, hb, hy, hg2, k⟩
    all_goals rfl
  · have hu := hu_of hr
    refine ⟨_, (pss_cons (ps_setLc (i := 3) (own := [("k", 5)]) (g := gName 5) rfl sc_law_right.nd rfl rfl (sw_true rfl rfl rfl (by decide +kernel)) (pi_range1 rfl T.z_range (pa_cons (pv 0) (pa_nil))) (blkOk_by (own := [("k", 5)]) (N := ["members", "rows", "others", "due", "told", "k"]) (sc := defScope s_law_right) (by decide +kernel)) (fun _ _ _ _ _ => (pg_name (i := 5) sc_law_right.nd rfl (Or.inl rfl))) (fun _ _ _ _ _ => (pts_one (pt_cmpR (ko_eqD (K := K) rfl hr.units) (pe_call (ok_law_own (P := P) T) (hr.mono (by decide)) rfl T.m_law_own T.k_law_own T.b_law_own .nil pass0 (pa_cons (pv 1) (pa_cons (pv 5) (pa_nil)))) (pe_call (ok_law_own (P := P) T) (hr.mono (by decide)) rfl T.m_law_own T.k_law_own T.b_law_own .nil pass0 (pa_cons (pv 2) (pa_cons (pv 5) (pa_nil)))) (nomark _)))) (fun _ _ _ _ _ => (pv 5)))
      (pss_cons (ps_set (i := 4) sc_law_right.nd rfl (Or.inl rfl) (pe_call (ok_alike_to (P := P) T) (hr.mono (by decide)) rfl T.m_alike_to T.k_alike_to T.b_alike_to .nil passL (pa_cons (pv 0) (pa_cons (pv 1) (pa_cons (pv 2) (pa_nil))))))
      (pss_cons (ps_if (PW.pt (pw_or (pt_not (pt_val (pe_callB (id := "isinstance") (kx_isi (K := K) rfl) (by rfl) T.z_isinstance (by decide +kernel) (pa_cons (pv 4) (pa_cons (pe_bltn (v := .ty "list") (u := .type "list") (by rfl) T.z_list (by decide +kernel) rfl) (pa_nil)))))) (pw_or (pt_cmpR (ko_neD (K := K) rfl hr.units) (pv 4) (pv 3) (nomark _)) (pw_or1 (pt_not (pt_val (pe_callB (id := "all") (kx_all (K := K) rfl rfl) (by rfl) T.z_all (by decide +kernel) (pa_cons (pe_lc (own := [("k", 5)]) (g := gName 5) (tt := tYes) rfl sc_law_right.nd (kpi_list (K := K) rfl (pv 4)) (blkOk_by (own := [("k", 5)]) (N := ["members", "rows", "others", "due", "told", "k"]) (sc := defScope s_law_right) (by decide +kernel)) (fun _ _ _ _ _ => (pg_name (i := 5) sc_law_right.nd rfl (Or.inl rfl))) (fun _ _ _ _ _ => pts_nil) (fun _ _ _ _ _ => (pe_not (pe_callB (id := "isinstance") (kx_isi (K := K) rfl) (by rfl) T.z_isinstance (by decide +kernel) (pa_cons (pv 5) (pa_cons (pe_bltn (v := .ty "bool") (u := .type "bool") (by rfl) T.z_bool (by decide +kernel) rfl) (pa_nil))))))) (pa_nil)))))))))
      (pss_one (ps_ret pe_bl)) pss_nil)
      (pss_one (ps_ret (pe_cmpR (ko_eqD (K := K) rfl hr.units) (pe_call (ok_alike_to (P := P) T) (hr.mono (by decide)) rfl T.m_alike_to T.k_alike_to T.b_alike_to .nil passL (pa_cons (pv 0) (pa_cons (pe_callTy (T := "tuple") (kx_tuple (K := K) rfl) (by rfl) T.z_tuple (by decide +kernel) (pa_cons (pv 2) (pa_nil))) (pa_cons (pv 1) (pa_nil))))) (pv 3) (nomark _))))))), ?_⟩
    rcases h with ⟨a, b, xs, ys, rs, os, M, rfl, h2, h5, ha, hx, hg, hb, hy, hg2, k⟩
    have lx := hx.len
    have ly := hy.len
    have g1 := hg.len
    have g2 := hg2.len
    walk_at "rdn"
    intro D hD
    refine lc_any walk_range (fun i ys _ => ys = (((List.range i).filter fun z => decide (own rs (z : Nat) = own os (z : Nat))).map fun z => ((z : Nat) : Int)).map V.int) (by omega) (fun _ _ _ _ h _ => h) (fun _ _ _ _ h => h) rfl (fun _ _ => trivial) hD ?_ ?_ gName_m ?_
    · rintro i v zs B1 B2 R R2 hi s6 hP hDB ⟨rfl, rfl⟩ hR hR2
      show gName _ (V.int (0 + (i : Int))) _ _ _
      rw [Int.zero_add]
      refine ⟨wipe_set, ?_⟩
      have ha2 := s6 _ _ ha
      walk_at "rdn"
      refine r_law_own rfl (ha := SqL.of ha2) (hx := RowAt.all hx s6) (hl := by omega) ?_
      intro l1 ys1 G1 t1 w1 w2
      walk_at "rdn"
      refine r_law_own rfl (ha := SqL.of (t1 _ _ (s6 _ _ hb))) (hx := RowAt.all hy (s6.trans t1)) (hl := by omega) ?_
      intro l2 ys2 G2 t2 w3 w4
      refine q_eqRows (SqL.of (t2 _ _ w1)) (RowAt.all w2 t2) (SqL.of w3) w4 ?_
      walk_at "rdn"
      have st : ∀ b : Bool, decide (own rs (i : Nat) = own os (i : Nat)) = b → (List.range (i + 1)).filter (fun z => decide (own rs (z : Nat) = own os (z : Nat))) = (List.range i).filter (fun z => decide (own rs (z : Nat) = own os (z : Nat))) ++ (if b = true then [i] else []) := fun b hb => by
        rw [List.range_succ, List.filter_append]
        congr 1
        cases b <;> simp [hb]
      refine ⟨hR _ _ (t1.trans t2) (fun hb => by rw [st _ hb, hP]; simp), fun hb => ?_⟩
      walk_at "rdn"
      exact hR2 _ _ (t1.trans t2) (by rw [st _ hb, hP]; simp)
    · intro zs B1 s6 hP hD3
      have ha := s6 _ _ ha
      have hb := s6 _ _ hb
      have hx := RowAt.all hx s6
      have hy := RowAt.all hy s6
      have hP : zs = (alk M rs os).map V.int := hP
      subst hP
      walk_at "rdn"
      refine r_alike_to_1 rfl (h2 := h2) (h5 := h5) (ha := .inl ha) (hx := hx) (hg := hg) (hb := .inl hb) (hy := hy) (hg2 := hg2) ?_
      intro l1 H1 s1 e1
      have hD4 := s1 _ _ hD3
      walk_at "rdn"
      intro D2 hD2
      refine lc_itemsB (fun _ => true) (SqL.of e1) (Nat.le_trans (alk_len) (by omega)) hD2 (fun x hx H2 R s2 hR => ?_) (fun H2 s2 e => ?_)
      · obtain ⟨n, _, rfl⟩ := List.mem_map.mp hx
        walk_at "rdn"
        exact hR _ (Same.refl _)
      · have hD5 := s2 _ _ hD4
        have hbx := s2 _ _ (s1 _ _ hb)
        have hax := s2 _ _ (s1 _ _ ha)
        have hDx := s2 _ _ (s1 _ _ hD3)
        have S2 := s1.trans s2
        walk_at "rdn"
        refine q_ifs (fun _ => ?_) (fun hf => absurd hf (by simp))
        walk_at "rdn"
        intro tp htp
        have S3 : Same H2 (upd H2 tp (.tup ys)) := Same.new htp
        have etp : upd H2 tp (.tup ys) tp = some (.tup ys) := upd_same
        generalize upd H2 tp (.tup ys) = G3 at S3 etp ⊢
        have hax := S3 _ _ hax
        have hDx := S3 _ _ hDx
        have S4 := S2.trans S3
        clear htp
        walk_at "rdn"
        refine r_alike_to_1 rfl (h2 := h2) (h5 := h5) (ha := .inr etp) (hx := RowAt.all hy S4) (hg := hg2) (hb := .inl hax) (hy := RowAt.all hx S4) (hg2 := hg) ?_
        intro l2 G4 s4 e4
        have hDx := s4 _ _ hDx
        walk_at "rdn"
        exact R_of (k _ (s6.trans (S4.trans s4))) (by rw [alk_comm]; simp)
    · exact tEqOwnL_m
theorem ok_law_refused (T : Tx K mg) : FnOk P w K mg base CX0 8 T.f_law_refused T.d_law_refused ["members", "rows", "others"] (sp_law_refused K) := by
  refine T.F_law_refused.ok sc_law_refused (fun vs H Q E h => ?_) (fun cdv A outer s H vs Q E hr h => ?_)
  · rcases h with ⟨a, b, t, xs, rs, M, rfl, h2, h5, ha, hx, hg, hb, ht, k⟩ | ⟨a, t, M, y, rfl, h2, h5, ha, ht, k⟩ | ⟨M, y, rfl, h2, h5, k⟩
    all_goals rfl
  · have hu := hu_of hr
    refine ⟨_, (pss_cons (ps_tryX rfl rfl sc_law_refused.nd takes0 (fun W pn xe tk po => (pss_one (ps_expr (pe_callSD (ok_alike_to (P := P) T) (hr.mono (by decide)) rfl T.m_alike_to T.k_alike_to T.b_alike_to .nil (fun σ => passX tk σ) (pa_cons (pv 0) (pa_cons (pv 1) (pa_cons (pv 2) (pa_nil))))))))
      (.named (i := 3) (TK.one (show Names _ "NoHistory" (.ref T.C_NoHistory) from ⟨rfl, by decide, .inl T.g_NoHistory⟩)) rfl rfl (fun a oe cls d pn hz hf => (pss_one (ps_ret (pe_xg rfl hz hf (pv 3))))) .nil))
      (pss_one (ps_ret pe_str))), ?_⟩
    rcases h with ⟨a, b, t, xs, rs, M, rfl, h2, h5, ha, hx, hg, hb, ht, k⟩ | ⟨a, t, M, y, rfl, h2, h5, ha, ht, k⟩ | ⟨M, y, rfl, h2, h5, k⟩
    · walk_at "rdn"
      refine r_alike_to_4 rfl (h2 := h2) (h5 := h5) (ha := .inl ha) (hx := hx) (hg := hg) (hb := hb) (ht := ht) ?_
      intro d H1 s1 hd
      walk_at "rdn"
      intro e he
      walk_at "rdn"
      exact k _ s1
    · walk_at "rdn"
      intro d H1 s1 hd
      walk_at "rdn"
      intro e he
      walk_at "rdn"
      exact k _ s1
    · walk_at "rdn"
      intro d H1 s1 hd
      walk_at "rdn"
      intro e he
      walk_at "rdn"
      exact k _ s1
theorem ok_law (T : Tx K mg) : FnOk P w K mg base CX0 9 T.f_law T.d_law ["script"] (sp_law K) := by
  refine T.F_law.ok sc_law (fun vs H Q E h => ?_) (fun cdv A outer s H vs Q E hr h => ?_)
  · rcases h with ⟨a, ns, rfl, hs, hl, k⟩
    all_goals rfl
  · have hu := hu_of hr
    refine ⟨_, (pss_cons (ps_asg (pe_call (ok_law_rows (P := P) T) (hr.mono (by decide)) rfl T.m_law_rows T.k_law_rows T.b_law_rows .nil pass0 (pa_cons (pv 0) (pa_cons pe_int (pa_cons pe_int (pa_nil))))) (kg_tup (K := K) (n := 2) rfl rfl (pgs_cons (pg_name (i := 1) sc_law.nd rfl (Or.inl rfl)) (pgs_cons (pg_name (i := 2) sc_law.nd rfl (Or.inl rfl)) pgs_nil))))
      (pss_cons (ps_set (i := 3) sc_law.nd rfl (Or.inl rfl) (pe_call (ok_law_pool (P := P) T) (hr.mono (by decide)) rfl T.m_law_pool T.k_law_pool T.b_law_pool .nil pass0 (pa_cons (pe_call (ok_law_cell_at (P := P) T) (hr.mono (by decide)) rfl T.m_law_cell_at T.k_law_cell_at T.b_law_cell_at .nil pass0 (pa_cons (pv 0) (pa_cons pe_int (pa_nil)))) (pa_nil))))
      (pss_cons (ps_set (i := 4) sc_law.nd rfl (Or.inl rfl) (pe_call (ok_law_exchanged (P := P) T) (hr.mono (by decide)) rfl T.m_law_exchanged T.k_law_exchanged T.b_law_exchanged .nil pass0 (pa_cons (pv 2) (pa_cons (pv 3) (pa_nil)))))
      (pss_cons (ps_if (pt_cmpR (op_neX rfl (by have h := room128 hr; exact h)) (pe_call (ok_alike_to (P := P) T) (hr.mono (by decide)) rfl T.m_alike_to T.k_alike_to T.b_alike_to .nil passL (pa_cons (pv 1) (pa_cons (pv 2) (pa_cons (pv 4) (pa_nil))))) (pe_listRg rfl (by rfl) T.z_list (prg_1 (by rfl) T.z_range (pv 1))) (nomark _))
      (pss_one (ps_ret pe_bl)) pss_nil)
      (pss_cons (ps_set (i := 5) sc_law.nd rfl (Or.inl rfl) (pe_callTy (T := "list") (kx_list (K := K) rfl) (by rfl) T.z_list (by decide +kernel) (pa_cons (pv 2) (pa_nil))))
      (pss_cons (ps_for PassesOwn.never rfl (pi_range1 rfl T.z_range (pa_cons pe_int (pa_nil))) (pg_name (i := 6) sc_law.nd rfl (Or.inl rfl))
      (pss_cons (ps_if (PW.pt (pw_or (pt_not (pt_val (pe_call (ok_law_right (P := P) T) (hr.mono (by decide)) rfl T.m_law_right T.k_law_right T.b_law_right .nil pass0 (pa_cons (pv 1) (pa_cons (pv 2) (pa_cons (pv 4) (pa_nil))))))) (pw_or1 (pt_not (pt_val (pe_call (ok_law_right (P := P) T) (hr.mono (by decide)) rfl T.m_law_right T.k_law_right T.b_law_right .nil pass0 (pa_cons (pv 1) (pa_cons (pv 2) (pa_cons (pv 2) (pa_nil))))))))))
      (pss_one (ps_ret pe_bl)) pss_nil)
      (pss_cons (ps_set (i := 4) sc_law.nd rfl (Or.inl rfl) (pe_call (ok_law_changed (P := P) T) (hr.mono (by decide)) rfl T.m_law_changed T.k_law_changed T.b_law_changed .nil pass0 (pa_cons (pv 4) (pa_cons (pv 1) (pa_cons (pv 3) (pa_nil))))))
      (pss_one (ps_if (pt_cmpR op_eq (pe_op op_mod (pv 6) pe_int) pe_int (nomark _))
      (pss_one (ps_set (i := 4) sc_law.nd rfl (Or.inl rfl) (pe_call (ok_law_exchanged (P := P) T) (hr.mono (by decide)) rfl T.m_law_exchanged T.k_law_exchanged T.b_law_exchanged .nil pass0 (pa_cons (pv 4) (pa_cons (pv 3) (pa_nil)))))) pss_nil)))))
      (pss_cons (ps_set (i := 7) sc_law.nd rfl (Or.inl rfl) (pe_lst (pa_cons (pe_tup (pa_cons pe_str (pa_cons pe_int (pa_cons (pv 1) (pa_cons pe_int (pa_nil)))))) (pa_nil))))
      (pss_cons (ps_set (i := 8) sc_law.nd rfl (Or.inl rfl) (pe_lst (pa_cons (pe_tup (pa_cons pe_str (pa_cons pe_int (pa_cons pe_int (pa_cons pe_int (pa_cons pe_int (pa_nil))))))) (pa_nil))))
      (pss_cons (ps_if (pt_cmpR (op_neX rfl (by have h := room128 hr; exact h)) (pe_call (ok_law_refused (P := P) T) (hr.mono (by decide)) rfl T.m_law_refused T.k_law_refused T.b_law_refused .nil pass0 (pa_cons (pv 1) (pa_cons (pv 2) (pa_cons (pv 7) (pa_nil))))) (pv 7) (nomark _))
      (pss_one (ps_ret pe_bl)) pss_nil)
      (pss_cons (ps_set (i := 9) sc_law.nd rfl (Or.inl rfl) (pe_call (ok_law_refused (P := P) T) (hr.mono (by decide)) rfl T.m_law_refused T.k_law_refused T.b_law_refused .nil pass0 (pa_cons (pv 1) (pa_cons (pv 7) (pa_cons (pv 8) (pa_nil))))))
      (pss_cons (ps_expr (pe_bm PySem.F.plainAttrs_list PySem.F.slot_list_append PySem.F.type_list_append mt_append (pv 7) (pa_cons pe_str (pa_nil))))
      (pss_cons (ps_if (pt_cmpR (op_neX rfl (by have h := room128 hr; exact h)) (pv 9) (pv 7) (nomark _))
      (pss_one (ps_ret pe_bl)) pss_nil)
      (pss_one (ps_ret (pe_and (pe_call (ok_law_right (P := P) T) (hr.mono (by decide)) rfl T.m_law_right T.k_law_right T.b_law_right .nil pass0 (pa_cons (pv 1) (pa_cons (pe_lst pa_nil) (pa_cons (pv 4) (pa_nil))))) (pe_and (pe_cmpR (op_eqX rfl (by have h := room128 hr; exact h)) (pv 2) (pv 5) (nomark _)) (pe_one (pe_cmpR op_isNon (pe_call (ok_law_refused (P := P) T) (hr.mono (by decide)) rfl T.m_law_refused T.k_law_refused T.b_law_refused .nil pass0 (pa_cons (pv 1) (pa_cons pe_non (pa_cons (pv 7) (pa_nil))))) pe_non (nomark _))))))))))))))))))), ?_⟩
    rcases h with ⟨a, ns, rfl, hs, hl, k⟩
    walk_at "rdn"
    intro M t R xs rs H1 s1 ht hR hx h2 h5 hg hl hns
    have hs1 := s1.seq hs
    walk_at "rdn"
    intro c
    walk_at "rdn"
    intro q z hq hz
    have hR := Same.new (o := .lst [.int z]) hq _ _ hR
    have hx := RowAt.all hx (Same.new (o := .lst [.int z]) hq)
    have eq1 : upd H1 q (.lst [.int z]) q = some (.lst [.int z]) := upd_same
    have nRq : R ≠ q := fun e => by
      subst e
      rw [eq1] at hR
      cases hR
      cases hx with
      | cons h _ => obtain ⟨_, _, w, _⟩ := h; cases w
    generalize upd H1 q (.lst [.int z]) = G1 at hR hx eq1 ⊢
    clear hq ht hs1 s1
    walk_at "rdn"
    intro O ys os z2 G2 f2 eq2 nO hO hy hp ho
    have hR2 := f2 _ _ nRq hR
    have hx2 := (fr1_keep f2).rows (fun b hb => by rw [List.mem_singleton.mp hb]; exact ⟨_, eq1⟩) hx
    have nOq : O ≠ q := fun e => by rw [e, eq1] at nO; cases nO
    have gh : GoodH M rs := ⟨hg, by omega, by omega⟩
    have gh2 : GoodH M os := ⟨fun ρ h => hg ρ (hp.mem_iff.mp h), by rw [hp.length_eq]; omega, by rw [nSent_perm hp]; omega⟩
    have lo : os.length ≤ 63 := by rw [hp.length_eq]; omega
    have no : nSent os ≤ 14 := by rw [nSent_perm hp]; omega
    walk_at "rdn"
    refine r_alike_to_1 rfl (h2 := h2) (h5 := h5) (ha := .inl hR2) (hx := hx2) (hg := gh) (hb := .inl hO) (hy := hy) (hg2 := gh2) ?_
    intro l3 G3 s3 e3
    have hR3 := s3 _ _ hR2
    have hx3 := RowAt.all hx2 s3
    have hO3 := s3 _ _ hO
    have hy3 := RowAt.all hy s3
    have eq3 := s3 _ _ eq2
    clear hR hx eq1 f2 eq2 hO hy hR2 hx2 s3 nO
    walk_at "rdn"
    refine q_listRg ?_ tVar_m
    walk_at "rdn"
    refine ⟨by omega, by omega, ?_⟩
    intro l4 hl4
    have ea := alk_all (M := M) (rs := rs) (os := os) (by omega) ho
    refine q_neXL (K := K) (SqL.of ((Same.new hl4) _ _ e3)) (SqL.of upd_same) (by rw [← ea]; exact E1s_ints) ?_
    have S4 : Same G3 (upd G3 l4 (.lst (rgV 0 M))) := Same.new hl4
    generalize upd G3 l4 (.lst (rgV 0 M)) = G4 at S4 ⊢
    have hR4 := S4 _ _ hR3
    have hx4 := RowAt.all hx3 S4
    have hO4 := S4 _ _ hO3
    have hy4 := RowAt.all hy3 S4
    have eq4 := S4 _ _ eq3
    clear hl4 hR3 hx3 hO3 hy3 eq3 e3 S4
    walk_at "rdn"
    intro Kp hKp
    have S5 : Same G4 (upd G4 Kp (.lst xs)) := Same.new hKp
    have eK : upd G4 Kp (.lst xs) Kp = some (.lst xs) := upd_same
    have nKq : Kp ≠ q := fun e => by rw [e, eq4] at hKp; cases hKp
    generalize upd G4 Kp (.lst xs) = G5 at S5 eK ⊢
    have hR5 := S5 _ _ hR4
    have hx5 := RowAt.all hx4 S5
    have hO5 := S5 _ _ hO4
    have hy5 := RowAt.all hy4 S5
    have eq5 := S5 _ _ eq4
    clear hKp hR4 hx4 hO4 hy4 eq4 S5
    walk_at "rdn"
    refine for_range (fun i σ H' => ∃ (O : Addr) (u6 u7 u8 u9 : Option V) (ys : List V) (os : List RowD) (z : Int), σ = [some (.ref a), some (.int M), some (.ref R), some (.ref q), some (.ref O), some (.ref Kp), u6, u7, u8, u9] ∧ H' q = some (.lst [.int z]) ∧ H' R = some (.lst xs) ∧ All2 (RowAt H') xs rs ∧ H' Kp = some (.lst xs) ∧ H' O = some (.lst ys) ∧ All2 (RowAt H') ys os ∧ (∀ ρ ∈ os, ρ.Good M) ∧ os.length ≤ 63 + i ∧ nSent os ≤ 14 ∧ O ≠ q) ⟨O, none, none, none, none, ys, os, z2, rfl, eq5, hR5, hx5, eK, hO5, hy5, gh2.all, lo, no, nOq⟩ ?_ ?_
    · rintro i σ A0 hi ⟨O, u6, u7, u8, u9, ys, os, z, rfl, hq, hR, hx, hK, hO, hy, hgo, hlo, hno, nO⟩
      have gho : GoodH M os := ⟨hgo, by omega, by omega⟩
      rw [Int.zero_add]
      walk_at "rdn"
      try refine r_law_right rfl (h2 := h2) (h5 := h5) (ha := hR) (hx := hx) (hg := gh) (hb := hO) (hy := hy) (hg2 := gho) ?_
      intro A1 s1
      have hR1 := s1 _ _ hR
      have hx1 := RowAt.all hx s1
      walk_at "rdn"
      try refine r_law_right rfl (h2 := h2) (h5 := h5) (ha := hR1) (hx := hx1) (hg := gh) (hb := hR1) (hy := hx1) (hg2 := gh) ?_
      intro A2 s2
      have S := s1.trans s2
      have hR2 := S _ _ hR
      have hx2 := RowAt.all hx S
      have hK2 := S _ _ hK
      have hO2 := S _ _ hO
      have hy2 := RowAt.all hy S
      have hq2 := S _ _ hq
      clear hR hx hK hO hy hq hR1 hx1 s1 s2 S
      walk_at "rdn"
      try refine r_law_changed rfl (hR := hO2) (hx := hy2) (hl := by omega) (hg := hgo) (h2 := h2) (h5 := h5) (hq := hq2) (nq := nO) ?_
      intro O3 ys3 os3 z3 A3 f3 hq3 nO3 hO3 hy3 hg3 hl3 hn3
      have hR3 := f3 _ _ nRq hR2
      have hx3 := (fr1_keep f3).rows (fun b hb => by rw [List.mem_singleton.mp hb]; exact ⟨_, hq2⟩) hx2
      have hK3 := f3 _ _ nKq hK2
      have nO3q : O3 ≠ q := fun e => by rw [e, hq2] at nO3; cases nO3
      clear hR2 hx2 hK2 hO2 hy2 f3
      walk_at "rdn"
      refine q_ifx (fun h3 => ?_) (fun h3 => ?_)
      · walk_at "rdn"
        try refine r_law_exchanged rfl (hR := hO3) (hx := hy3) (hl := by omega) (hq := hq3) ?_
        intro O4 ys4 os4 z4 A4 f4 hq4 nO4 hO4 hy4 hp4 _
        walk_at "rdn"
        exact ⟨O4, _, _, _, _, ys4, os4, z4, rfl, hq4, f4 _ _ nRq hR3, (fr1_keep f4).rows (fun b hb => by rw [List.mem_singleton.mp hb]; exact ⟨_, hq3⟩) hx3, f4 _ _ nKq hK3, hO4, hy4, fun ρ h => hg3 ρ (hp4.mem_iff.mp h), by rw [hp4.length_eq]; omega, by rw [nSent_perm hp4]; omega, fun e => by rw [e, hq3] at nO4; cases nO4⟩
      · walk_at "rdn"
        exact ⟨O3, _, _, _, _, ys3, os3, z3, rfl, hq3, hR3, hx3, hK3, hO3, hy3, hg3, by omega, by omega, nO3q⟩
    · rintro σ A0 ⟨O, u6, u7, u8, u9, ys, os, z, rfl, hq, hR, hx, hK, hO, hy, hgo, hlo, hno, nO⟩
      have gho : GoodH M os := ⟨hgo, by omega, by omega⟩
      walk_at "rdn"
      intro t1 ht1
      walk_at "rdn"
      intro bd hbd
      walk_at "rdn"
      intro t2 ht2
      walk_at "rdn"
      intro ws hws
      have n1 : t1 ≠ bd := by walk_at "ne"
      have n2 : t1 ≠ t2 := by walk_at "ne"
      have n3 : bd ≠ t2 := by walk_at "ne"
      have n4 : t1 ≠ ws := by walk_at "ne"
      have n5 : bd ≠ ws := by walk_at "ne"
      have S : Same A0 (upd (upd (upd (upd A0 t1 (.tup [.str "got", .int 0, .int M, .int 1])) bd (.lst [.ref t1])) t2 (.tup [.str "told", .int 0, .int 0, .int 1, .int 1])) ws (.lst [.ref t2])) := (((Same.new ht1).trans (Same.new hbd)).trans (Same.new ht2)).trans (Same.new hws)
      have eb : upd (upd (upd (upd A0 t1 (.tup [.str "got", .int 0, .int M, .int 1])) bd (.lst [.ref t1])) t2 (.tup [.str "told", .int 0, .int 0, .int 1, .int 1])) ws (.lst [.ref t2]) bd = some (.lst [.ref t1]) := by walk_at "lk"
      have et : upd (upd (upd (upd A0 t1 (.tup [.str "got", .int 0, .int M, .int 1])) bd (.lst [.ref t1])) t2 (.tup [.str "told", .int 0, .int 0, .int 1, .int 1])) ws (.lst [.ref t2]) t1 = some (.tup (RowD.got 0 M 1).vs) := (upd_ne n4).trans ((upd_ne n2).trans ((upd_ne n1).trans upd_same))
      generalize upd (upd (upd (upd A0 t1 (.tup [.str "got", .int 0, .int M, .int 1])) bd (.lst [.ref t1])) t2 (.tup [.str "told", .int 0, .int 0, .int 1, .int 1])) ws (.lst [.ref t2]) = A1 at S eb et ⊢
      have nbR : R ≠ bd := ne_of_none hR (upd_free hbd)
      have nbK : Kp ≠ bd := ne_of_none hK (upd_free hbd)
      have nbO : O ≠ bd := ne_of_none hO (upd_free hbd)
      clear ht1 hbd ht2 hws n1 n2 n3 n4 n5
      have hR := S _ _ hR
      have hx := RowAt.all hx S
      have hK := S _ _ hK
      have hO := S _ _ hO
      have hy := RowAt.all hy S
      walk_at "rdn"
      try refine r_law_refused_1 rfl (h2 := h2) (h5 := h5) (ha := hR) (hx := hx) (hg := gh) (hb := eb) (ht := et) ?_
      intro A2 s2
      have eb := s2 _ _ eb
      have et := s2 _ _ et
      walk_at "rdn"
      refine q_neXL (K := K) (SqL.of eb) (SqL.of eb) (E1s.cons (.same t1) .nil) ?_
      walk_at "rdn"
      intro A3 s3
      have S3 := s2.trans s3
      have hR := S3 _ _ hR
      have hx := RowAt.all hx S3
      have hK := S3 _ _ hK
      have hO := S3 _ _ hO
      have hy := RowAt.all hy S3
      have eb := s3 _ _ eb
      have et := s3 _ _ et
      clear s2 s3 S3
      walk_at "rdn"
      have ntb : t1 ≠ bd := fun e => by rw [e, eb] at et; cases et
      have no2 : ∀ b o, b ≠ bd → A3 b = some o → upd A3 bd (.lst ([.ref t1] ++ [.str "more"])) b = some o := fun b o n e => (upd_ne n).trans e
      have eb2 : upd A3 bd (.lst ([.ref t1] ++ [.str "more"])) bd = some (.lst ([.ref t1] ++ [.str "more"])) := upd_same
      have hx2 : All2 (RowAt (upd A3 bd (.lst ([.ref t1] ++ [.str "more"])))) xs rs := hx.mono fun v τ z => by
        obtain ⟨ok, u, q1, q2⟩ := z
        exact ⟨ok, u, q1, no2 _ _ (fun w => by rw [w, eb] at q2; cases q2) q2⟩
      have hy2 : All2 (RowAt (upd A3 bd (.lst ([.ref t1] ++ [.str "more"])))) ys os := hy.mono fun v τ z => by
        obtain ⟨ok, u, q1, q2⟩ := z
        exact ⟨ok, u, q1, no2 _ _ (fun w => by rw [w, eb] at q2; cases q2) q2⟩
      have hR2 := no2 _ _ nbR hR
      have hK2 := no2 _ _ nbK hK
      have hO2 := no2 _ _ nbO hO
      generalize upd A3 bd (.lst ([.ref t1] ++ [.str "more"])) = A4 at eb2 hx2 hy2 hR2 hK2 hO2 ⊢
      refine q_neXL (K := K) (SqL.of eb2) (SqL.of eb2) (E1s.cons (.same t1) (E1s.cons e1_str .nil)) ?_
      walk_at "rdn"
      intro e he
      have S6 : Same A4 (upd A4 e (.lst [])) := Same.new he
      have ee : upd A4 e (.lst []) e = some (.lst []) := upd_same
      generalize upd A4 e (.lst []) = A5 at S6 ee ⊢
      have hR5 := S6 _ _ hR2
      have hx5 := RowAt.all hx2 S6
      have hK5 := S6 _ _ hK2
      have hO5 := S6 _ _ hO2
      have hy5 := RowAt.all hy2 S6
      have g0 : GoodH M [] := ⟨(fun ρ h => nomatch h), Nat.zero_le _, Nat.zero_le _⟩
      walk_at "rdn"
      try refine r_law_right rfl (h2 := h2) (h5 := h5) (ha := ee) (hx := .nil) (hg := g0) (hb := hO5) (hy := hy5) (hg2 := gho) ?_
      intro A6 s6
      have hR6 := s6 _ _ hR5
      have hK6 := s6 _ _ hK5
      walk_at "rdn"
      refine q_eqXL (K := K) (SqL.of hR6) (SqL.of hK6) (E1s_rows hx5) ?_
      walk_at "rdn"
      intro A7 s7
      walk_at "rdn"
      exact k _

end
theorem all_mk {l : PySem.W.OpenLaw} [PF l.prog] {w : World} {K : PySem.W.Frag} {h : Heap} {mg : Str → Option Value} {fa : Addr} (X : K.In h) (G : h.Ns mainGlobals mg) (hfa : mg "law" = some (.ref fa))
    {f_is_whole : Addr} {od_is_whole an_is_whole : Option Addr} {sl_is_whole : Array (Option Value)} {oc_is_whole kV_is_whole dc_is_whole pm_is_whole cd_is_whole ct_is_whole : Value}
    {da_is_whole : Addr} {ddd_is_whole : Option Addr} {dn_is_whole : Nat} {dsl_is_whole : Array (Option Value)}
    {f_is_text_of : Addr} {od_is_text_of an_is_text_of : Option Addr} {sl_is_text_of : Array (Option Value)} {oc_is_text_of kV_is_text_of dc_is_text_of pm_is_text_of cd_is_text_of ct_is_text_of : Value}
    {f_is_word : Addr} {od_is_word an_is_word : Option Addr} {sl_is_word : Array (Option Value)} {oc_is_word kV_is_word dc_is_word pm_is_word cd_is_word ct_is_word : Value}
    {f_is_list : Addr} {od_is_list an_is_list : Option Addr} {sl_is_list : Array (Option Value)} {oc_is_list kV_is_list dc_is_list pm_is_list cd_is_list ct_is_list : Value}
    {f_is_member : Addr} {od_is_member an_is_member : Option Addr} {sl_is_member : Array (Option Value)} {oc_is_member kV_is_member dc_is_member pm_is_member cd_is_member ct_is_member : Value}
    {f_is_ident : Addr} {od_is_ident an_is_ident : Option Addr} {sl_is_ident : Array (Option Value)} {oc_is_ident kV_is_ident dc_is_ident pm_is_ident cd_is_ident ct_is_ident : Value}
    {da_is_ident : Addr} {ddd_is_ident : Option Addr} {dn_is_ident : Nat} {dsl_is_ident : Array (Option Value)}
    {f_check_members : Addr} {od_check_members an_check_members : Option Addr} {sl_check_members : Array (Option Value)} {oc_check_members kV_check_members dc_check_members pm_check_members cd_check_members ct_check_members : Value}
    {f_is_row : Addr} {od_is_row an_is_row : Option Addr} {sl_is_row : Array (Option Value)} {oc_is_row kV_is_row dc_is_row pm_is_row cd_is_row ct_is_row : Value}
    {f_own_rows : Addr} {od_own_rows an_own_rows : Option Addr} {sl_own_rows : Array (Option Value)} {oc_own_rows kV_own_rows dc_own_rows pm_own_rows cd_own_rows ct_own_rows : Value}
    {f_is_history : Addr} {od_is_history an_is_history : Option Addr} {sl_is_history : Array (Option Value)} {oc_is_history kV_is_history dc_is_history pm_is_history cd_is_history ct_is_history : Value}
    {f_check_history : Addr} {od_check_history an_check_history : Option Addr} {sl_check_history : Array (Option Value)} {oc_check_history kV_check_history dc_check_history pm_check_history cd_check_history ct_check_history : Value}
    {f_alike_to : Addr} {od_alike_to an_alike_to : Option Addr} {sl_alike_to : Array (Option Value)} {oc_alike_to kV_alike_to dc_alike_to pm_alike_to cd_alike_to ct_alike_to : Value}
    {f_law_cell_at : Addr} {od_law_cell_at an_law_cell_at : Option Addr} {sl_law_cell_at : Array (Option Value)} {oc_law_cell_at kV_law_cell_at dc_law_cell_at pm_law_cell_at cd_law_cell_at ct_law_cell_at : Value}
    {f_law_take : Addr} {od_law_take an_law_take : Option Addr} {sl_law_take : Array (Option Value)} {oc_law_take kV_law_take dc_law_take pm_law_take cd_law_take ct_law_take : Value}
    {f_law_pool : Addr} {od_law_pool an_law_pool : Option Addr} {sl_law_pool : Array (Option Value)} {oc_law_pool kV_law_pool dc_law_pool pm_law_pool cd_law_pool ct_law_pool : Value}
    {f_law_model : Addr} {od_law_model an_law_model : Option Addr} {sl_law_model : Array (Option Value)} {oc_law_model kV_law_model dc_law_model pm_law_model cd_law_model ct_law_model : Value}
    {f_law_otherwise : Addr} {od_law_otherwise an_law_otherwise : Option Addr} {sl_law_otherwise : Array (Option Value)} {oc_law_otherwise kV_law_otherwise dc_law_otherwise pm_law_otherwise cd_law_otherwise ct_law_otherwise : Value}
    {f_law_has : Addr} {od_law_has an_law_has : Option Addr} {sl_law_has : Array (Option Value)} {oc_law_has kV_law_has dc_law_has pm_law_has cd_law_has ct_law_has : Value}
    {f_law_why_got : Addr} {od_law_why_got an_law_why_got : Option Addr} {sl_law_why_got : Array (Option Value)} {oc_law_why_got kV_law_why_got dc_law_why_got pm_law_why_got cd_law_why_got ct_law_why_got : Value}
    {f_law_why : Addr} {od_law_why an_law_why : Option Addr} {sl_law_why : Array (Option Value)} {oc_law_why kV_law_why dc_law_why pm_law_why cd_law_why ct_law_why : Value}
    {f_law_go : Addr} {od_law_go an_law_go : Option Addr} {sl_law_go : Array (Option Value)} {oc_law_go kV_law_go dc_law_go pm_law_go cd_law_go ct_law_go : Value}
    {f_law_may : Addr} {od_law_may an_law_may : Option Addr} {sl_law_may : Array (Option Value)} {oc_law_may kV_law_may dc_law_may pm_law_may cd_law_may ct_law_may : Value}
    {f_law_word : Addr} {od_law_word an_law_word : Option Addr} {sl_law_word : Array (Option Value)} {oc_law_word kV_law_word dc_law_word pm_law_word cd_law_word ct_law_word : Value}
    {f_law_new_row : Addr} {od_law_new_row an_law_new_row : Option Addr} {sl_law_new_row : Array (Option Value)} {oc_law_new_row kV_law_new_row dc_law_new_row pm_law_new_row cd_law_new_row ct_law_new_row : Value}
    {f_law_rows : Addr} {od_law_rows an_law_rows : Option Addr} {sl_law_rows : Array (Option Value)} {oc_law_rows kV_law_rows dc_law_rows pm_law_rows cd_law_rows ct_law_rows : Value}
    {f_law_exchanged : Addr} {od_law_exchanged an_law_exchanged : Option Addr} {sl_law_exchanged : Array (Option Value)} {oc_law_exchanged kV_law_exchanged dc_law_exchanged pm_law_exchanged cd_law_exchanged ct_law_exchanged : Value}
    {f_law_changed : Addr} {od_law_changed an_law_changed : Option Addr} {sl_law_changed : Array (Option Value)} {oc_law_changed kV_law_changed dc_law_changed pm_law_changed cd_law_changed ct_law_changed : Value}
    {f_law_own : Addr} {od_law_own an_law_own : Option Addr} {sl_law_own : Array (Option Value)} {oc_law_own kV_law_own dc_law_own pm_law_own cd_law_own ct_law_own : Value}
    {f_law_right : Addr} {od_law_right an_law_right : Option Addr} {sl_law_right : Array (Option Value)} {oc_law_right kV_law_right dc_law_right pm_law_right cd_law_right ct_law_right : Value}
    {f_law_refused : Addr} {od_law_refused an_law_refused : Option Addr} {sl_law_refused : Array (Option Value)} {oc_law_refused kV_law_refused dc_law_refused pm_law_refused cd_law_refused ct_law_refused : Value}
    {f_law : Addr} {od_law an_law : Option Addr} {sl_law : Array (Option Value)} {oc_law kV_law dc_law pm_law cd_law ct_law : Value}
    {C_NoHistory : Addr}
    {C_NoNumber : Addr}
    {fI_NoHistory cda_NoHistory cc_NoHistory : Addr} {odI_NoHistory anI_NoHistory : Option Addr} {slI_NoHistory ccsI_NoHistory cslI_NoHistory : Array (Option Value)} {ocI_NoHistory kVI_NoHistory dcI_NoHistory pmI_NoHistory ctI_NoHistory cclI_NoHistory clI_NoHistory : Value} {cddI_NoHistory cldI_NoHistory : Option Addr} {vsI_NoHistory : Array Value} {tfI_NoHistory : Tok}
    {fI_NoNumber cda_NoNumber cc_NoNumber : Addr} {odI_NoNumber anI_NoNumber : Option Addr} {slI_NoNumber ccsI_NoNumber cslI_NoNumber : Array (Option Value)} {ocI_NoNumber kVI_NoNumber dcI_NoNumber pmI_NoNumber ctI_NoNumber cclI_NoNumber clI_NoNumber : Value} {cddI_NoNumber cldI_NoNumber : Option Addr} {vsI_NoNumber : Array Value} {tfI_NoNumber : Tok}
    {t_LEAST_MEMBERS : Tok}
    {t_MOST_LETTERS : Tok}
    {t_MOST_MEMBERS : Tok}
    {t_MOST_ROWS : Tok}
    {t_MOST_SIGNS : Tok}
    (aC_NoNumber : PySem.W.nsIn K mainGlobals "NoNumber" = some (some (.ref C_NoNumber)))
    (aC_NoHistory : PySem.W.nsIn K mainGlobals "NoHistory" = some (some (.ref C_NoHistory)))
    (a_is_whole : PySem.W.nsIn K mainGlobals "is_whole" = some (some (.ref f_is_whole)))
    (l_is_whole : K.lookup f_is_whole = some ⟨oc_is_whole, od_is_whole, .func (PySem.W.fnOf "is_whole" "is_whole" (defArgs s_is_whole) (defBody s_is_whole) (defScope s_is_whole) (.ref da_is_whole) kV_is_whole dc_is_whole pm_is_whole an_is_whole cd_is_whole ct_is_whole), sl_is_whole⟩)
    (c_is_whole : PySem.W.codeIn K cd_is_whole "is_whole" = true)
    (k_is_whole : PySem.W.keepIn K (.ref f_is_whole) = true)
    (e_is_whole : K.lookup da_is_whole = some ⟨.type "tuple", ddd_is_whole, .seq #[.none] dn_is_whole, dsl_is_whole⟩)
    (a_is_text_of : PySem.W.nsIn K mainGlobals "is_text_of" = some (some (.ref f_is_text_of)))
    (l_is_text_of : K.lookup f_is_text_of = some ⟨oc_is_text_of, od_is_text_of, .func (PySem.W.fnOf "is_text_of" "is_text_of" (defArgs s_is_text_of) (defBody s_is_text_of) (defScope s_is_text_of) .none kV_is_text_of dc_is_text_of pm_is_text_of an_is_text_of cd_is_text_of ct_is_text_of), sl_is_text_of⟩)
    (c_is_text_of : PySem.W.codeIn K cd_is_text_of "is_text_of" = true)
    (k_is_text_of : PySem.W.keepIn K (.ref f_is_text_of) = true)
    (a_is_word : PySem.W.nsIn K mainGlobals "is_word" = some (some (.ref f_is_word)))
    (l_is_word : K.lookup f_is_word = some ⟨oc_is_word, od_is_word, .func (PySem.W.fnOf "is_word" "is_word" (defArgs s_is_word) (defBody s_is_word) (defScope s_is_word) .none kV_is_word dc_is_word pm_is_word an_is_word cd_is_word ct_is_word), sl_is_word⟩)
    (c_is_word : PySem.W.codeIn K cd_is_word "is_word" = true)
    (k_is_word : PySem.W.keepIn K (.ref f_is_word) = true)
    (a_is_list : PySem.W.nsIn K mainGlobals "is_list" = some (some (.ref f_is_list)))
    (l_is_list : K.lookup f_is_list = some ⟨oc_is_list, od_is_list, .func (PySem.W.fnOf "is_list" "is_list" (defArgs s_is_list) (defBody s_is_list) (defScope s_is_list) .none kV_is_list dc_is_list pm_is_list an_is_list cd_is_list ct_is_list), sl_is_list⟩)
    (c_is_list : PySem.W.codeIn K cd_is_list "is_list" = true)
    (k_is_list : PySem.W.keepIn K (.ref f_is_list) = true)
    (a_is_member : PySem.W.nsIn K mainGlobals "is_member" = some (some (.ref f_is_member)))
    (l_is_member : K.lookup f_is_member = some ⟨oc_is_member, od_is_member, .func (PySem.W.fnOf "is_member" "is_member" (defArgs s_is_member) (defBody s_is_member) (defScope s_is_member) .none kV_is_member dc_is_member pm_is_member an_is_member cd_is_member ct_is_member), sl_is_member⟩)
    (c_is_member : PySem.W.codeIn K cd_is_member "is_member" = true)
    (k_is_member : PySem.W.keepIn K (.ref f_is_member) = true)
    (a_is_ident : PySem.W.nsIn K mainGlobals "is_ident" = some (some (.ref f_is_ident)))
    (l_is_ident : K.lookup f_is_ident = some ⟨oc_is_ident, od_is_ident, .func (PySem.W.fnOf "is_ident" "is_ident" (defArgs s_is_ident) (defBody s_is_ident) (defScope s_is_ident) (.ref da_is_ident) kV_is_ident dc_is_ident pm_is_ident an_is_ident cd_is_ident ct_is_ident), sl_is_ident⟩)
    (c_is_ident : PySem.W.codeIn K cd_is_ident "is_ident" = true)
    (k_is_ident : PySem.W.keepIn K (.ref f_is_ident) = true)
    (e_is_ident : K.lookup da_is_ident = some ⟨.type "tuple", ddd_is_ident, .seq #[.none] dn_is_ident, dsl_is_ident⟩)
    (a_check_members : PySem.W.nsIn K mainGlobals "check_members" = some (some (.ref f_check_members)))
    (l_check_members : K.lookup f_check_members = some ⟨oc_check_members, od_check_members, .func (PySem.W.fnOf "check_members" "check_members" (defArgs s_check_members) (defBody s_check_members) (defScope s_check_members) .none kV_check_members dc_check_members pm_check_members an_check_members cd_check_members ct_check_members), sl_check_members⟩)
    (c_check_members : PySem.W.codeIn K cd_check_members "check_members" = true)
    (k_check_members : PySem.W.keepIn K (.ref f_check_members) = true)
    (a_is_row : PySem.W.nsIn K mainGlobals "is_row" = some (some (.ref f_is_row)))
    (l_is_row : K.lookup f_is_row = some ⟨oc_is_row, od_is_row, .func (PySem.W.fnOf "is_row" "is_row" (defArgs s_is_row) (defBody s_is_row) (defScope s_is_row) .none kV_is_row dc_is_row pm_is_row an_is_row cd_is_row ct_is_row), sl_is_row⟩)
    (c_is_row : PySem.W.codeIn K cd_is_row "is_row" = true)
    (k_is_row : PySem.W.keepIn K (.ref f_is_row) = true)
    (a_own_rows : PySem.W.nsIn K mainGlobals "own_rows" = some (some (.ref f_own_rows)))
    (l_own_rows : K.lookup f_own_rows = some ⟨oc_own_rows, od_own_rows, .func (PySem.W.fnOf "own_rows" "own_rows" (defArgs s_own_rows) (defBody s_own_rows) (defScope s_own_rows) .none kV_own_rows dc_own_rows pm_own_rows an_own_rows cd_own_rows ct_own_rows), sl_own_rows⟩)
    (c_own_rows : PySem.W.codeIn K cd_own_rows "own_rows" = true)
    (k_own_rows : PySem.W.keepIn K (.ref f_own_rows) = true)
    (a_is_history : PySem.W.nsIn K mainGlobals "is_history" = some (some (.ref f_is_history)))
    (l_is_history : K.lookup f_is_history = some ⟨oc_is_history, od_is_history, .func (PySem.W.fnOf "is_history" "is_history" (defArgs s_is_history) (defBody s_is_history) (defScope s_is_history) .none kV_is_history dc_is_history pm_is_history an_is_history cd_is_history ct_is_history), sl_is_history⟩)
    (c_is_history : PySem.W.codeIn K cd_is_history "is_history" = true)
    (k_is_history : PySem.W.keepIn K (.ref f_is_history) = true)
    (a_check_history : PySem.W.nsIn K mainGlobals "check_history" = some (some (.ref f_check_history)))
    (l_check_history : K.lookup f_check_history = some ⟨oc_check_history, od_check_history, .func (PySem.W.fnOf "check_history" "check_history" (defArgs s_check_history) (defBody s_check_history) (defScope s_check_history) .none kV_check_history dc_check_history pm_check_history an_check_history cd_check_history ct_check_history), sl_check_history⟩)
    (c_check_history : PySem.W.codeIn K cd_check_history "check_history" = true)
    (k_check_history : PySem.W.keepIn K (.ref f_check_history) = true)
    (a_alike_to : PySem.W.nsIn K mainGlobals "alike_to" = some (some (.ref f_alike_to)))
    (l_alike_to : K.lookup f_alike_to = some ⟨oc_alike_to, od_alike_to, .func (PySem.W.fnOf "alike_to" "alike_to" (defArgs s_alike_to) (defBody s_alike_to) (defScope s_alike_to) .none kV_alike_to dc_alike_to pm_alike_to an_alike_to cd_alike_to ct_alike_to), sl_alike_to⟩)
    (c_alike_to : PySem.W.codeIn K cd_alike_to "alike_to" = true)
    (k_alike_to : PySem.W.keepIn K (.ref f_alike_to) = true)
    (a_law_cell_at : PySem.W.nsIn K mainGlobals "_law_cell_at" = some (some (.ref f_law_cell_at)))
    (l_law_cell_at : K.lookup f_law_cell_at = some ⟨oc_law_cell_at, od_law_cell_at, .func (PySem.W.fnOf "_law_cell_at" "_law_cell_at" (defArgs s_law_cell_at) (defBody s_law_cell_at) (defScope s_law_cell_at) .none kV_law_cell_at dc_law_cell_at pm_law_cell_at an_law_cell_at cd_law_cell_at ct_law_cell_at), sl_law_cell_at⟩)
    (c_law_cell_at : PySem.W.codeIn K cd_law_cell_at "_law_cell_at" = true)
    (k_law_cell_at : PySem.W.keepIn K (.ref f_law_cell_at) = true)
    (a_law_take : PySem.W.nsIn K mainGlobals "_law_take" = some (some (.ref f_law_take)))
    (l_law_take : K.lookup f_law_take = some ⟨oc_law_take, od_law_take, .func (PySem.W.fnOf "_law_take" "_law_take" (defArgs s_law_take) (defBody s_law_take) (defScope s_law_take) .none kV_law_take dc_law_take pm_law_take an_law_take cd_law_take ct_law_take), sl_law_take⟩)
    (c_law_take : PySem.W.codeIn K cd_law_take "_law_take" = true)
    (k_law_take : PySem.W.keepIn K (.ref f_law_take) = true)
    (a_law_pool : PySem.W.nsIn K mainGlobals "_law_pool" = some (some (.ref f_law_pool)))
    (l_law_pool : K.lookup f_law_pool = some ⟨oc_law_pool, od_law_pool, .func (PySem.W.fnOf "_law_pool" "_law_pool" (defArgs s_law_pool) (defBody s_law_pool) (defScope s_law_pool) .none kV_law_pool dc_law_pool pm_law_pool an_law_pool cd_law_pool ct_law_pool), sl_law_pool⟩)
    (c_law_pool : PySem.W.codeIn K cd_law_pool "_law_pool" = true)
    (k_law_pool : PySem.W.keepIn K (.ref f_law_pool) = true)
    (a_law_model : PySem.W.nsIn K mainGlobals "_law_model" = some (some (.ref f_law_model)))
    (l_law_model : K.lookup f_law_model = some ⟨oc_law_model, od_law_model, .func (PySem.W.fnOf "_law_model" "_law_model" (defArgs s_law_model) (defBody s_law_model) (defScope s_law_model) .none kV_law_model dc_law_model pm_law_model an_law_model cd_law_model ct_law_model), sl_law_model⟩)
    (c_law_model : PySem.W.codeIn K cd_law_model "_law_model" = true)
    (k_law_model : PySem.W.keepIn K (.ref f_law_model) = true)
    (a_law_otherwise : PySem.W.nsIn K mainGlobals "_law_otherwise" = some (some (.ref f_law_otherwise)))
    (l_law_otherwise : K.lookup f_law_otherwise = some ⟨oc_law_otherwise, od_law_otherwise, .func (PySem.W.fnOf "_law_otherwise" "_law_otherwise" (defArgs s_law_otherwise) (defBody s_law_otherwise) (defScope s_law_otherwise) .none kV_law_otherwise dc_law_otherwise pm_law_otherwise an_law_otherwise cd_law_otherwise ct_law_otherwise), sl_law_otherwise⟩)
    (c_law_otherwise : PySem.W.codeIn K cd_law_otherwise "_law_otherwise" = true)
    (k_law_otherwise : PySem.W.keepIn K (.ref f_law_otherwise) = true)
    (a_law_has : PySem.W.nsIn K mainGlobals "_law_has" = some (some (.ref f_law_has)))
    (l_law_has : K.lookup f_law_has = some ⟨oc_law_has, od_law_has, .func (PySem.W.fnOf "_law_has" "_law_has" (defArgs s_law_has) (defBody s_law_has) (defScope s_law_has) .none kV_law_has dc_law_has pm_law_has an_law_has cd_law_has ct_law_has), sl_law_has⟩)
    (c_law_has : PySem.W.codeIn K cd_law_has "_law_has" = true)
    (k_law_has : PySem.W.keepIn K (.ref f_law_has) = true)
    (a_law_why_got : PySem.W.nsIn K mainGlobals "_law_why_got" = some (some (.ref f_law_why_got)))
    (l_law_why_got : K.lookup f_law_why_got = some ⟨oc_law_why_got, od_law_why_got, .func (PySem.W.fnOf "_law_why_got" "_law_why_got" (defArgs s_law_why_got) (defBody s_law_why_got) (defScope s_law_why_got) .none kV_law_why_got dc_law_why_got pm_law_why_got an_law_why_got cd_law_why_got ct_law_why_got), sl_law_why_got⟩)
    (c_law_why_got : PySem.W.codeIn K cd_law_why_got "_law_why_got" = true)
    (k_law_why_got : PySem.W.keepIn K (.ref f_law_why_got) = true)
    (a_law_why : PySem.W.nsIn K mainGlobals "_law_why" = some (some (.ref f_law_why)))
    (l_law_why : K.lookup f_law_why = some ⟨oc_law_why, od_law_why, .func (PySem.W.fnOf "_law_why" "_law_why" (defArgs s_law_why) (defBody s_law_why) (defScope s_law_why) .none kV_law_why dc_law_why pm_law_why an_law_why cd_law_why ct_law_why), sl_law_why⟩)
    (c_law_why : PySem.W.codeIn K cd_law_why "_law_why" = true)
    (k_law_why : PySem.W.keepIn K (.ref f_law_why) = true)
    (a_law_go : PySem.W.nsIn K mainGlobals "_law_go" = some (some (.ref f_law_go)))
    (l_law_go : K.lookup f_law_go = some ⟨oc_law_go, od_law_go, .func (PySem.W.fnOf "_law_go" "_law_go" (defArgs s_law_go) (defBody s_law_go) (defScope s_law_go) .none kV_law_go dc_law_go pm_law_go an_law_go cd_law_go ct_law_go), sl_law_go⟩)
    (c_law_go : PySem.W.codeIn K cd_law_go "_law_go" = true)
    (k_law_go : PySem.W.keepIn K (.ref f_law_go) = true)
    (a_law_may : PySem.W.nsIn K mainGlobals "_law_may" = some (some (.ref f_law_may)))
    (l_law_may : K.lookup f_law_may = some ⟨oc_law_may, od_law_may, .func (PySem.W.fnOf "_law_may" "_law_may" (defArgs s_law_may) (defBody s_law_may) (defScope s_law_may) .none kV_law_may dc_law_may pm_law_may an_law_may cd_law_may ct_law_may), sl_law_may⟩)
    (c_law_may : PySem.W.codeIn K cd_law_may "_law_may" = true)
    (k_law_may : PySem.W.keepIn K (.ref f_law_may) = true)
    (a_law_word : PySem.W.nsIn K mainGlobals "_law_word" = some (some (.ref f_law_word)))
    (l_law_word : K.lookup f_law_word = some ⟨oc_law_word, od_law_word, .func (PySem.W.fnOf "_law_word" "_law_word" (defArgs s_law_word) (defBody s_law_word) (defScope s_law_word) .none kV_law_word dc_law_word pm_law_word an_law_word cd_law_word ct_law_word), sl_law_word⟩)
    (c_law_word : PySem.W.codeIn K cd_law_word "_law_word" = true)
    (k_law_word : PySem.W.keepIn K (.ref f_law_word) = true)
    (a_law_new_row : PySem.W.nsIn K mainGlobals "_law_new_row" = some (some (.ref f_law_new_row)))
    (l_law_new_row : K.lookup f_law_new_row = some ⟨oc_law_new_row, od_law_new_row, .func (PySem.W.fnOf "_law_new_row" "_law_new_row" (defArgs s_law_new_row) (defBody s_law_new_row) (defScope s_law_new_row) .none kV_law_new_row dc_law_new_row pm_law_new_row an_law_new_row cd_law_new_row ct_law_new_row), sl_law_new_row⟩)
    (c_law_new_row : PySem.W.codeIn K cd_law_new_row "_law_new_row" = true)
    (k_law_new_row : PySem.W.keepIn K (.ref f_law_new_row) = true)
    (a_law_rows : PySem.W.nsIn K mainGlobals "_law_rows" = some (some (.ref f_law_rows)))
    (l_law_rows : K.lookup f_law_rows = some ⟨oc_law_rows, od_law_rows, .func (PySem.W.fnOf "_law_rows" "_law_rows" (defArgs s_law_rows) (defBody s_law_rows) (defScope s_law_rows) .none kV_law_rows dc_law_rows pm_law_rows an_law_rows cd_law_rows ct_law_rows), sl_law_rows⟩)
    (c_law_rows : PySem.W.codeIn K cd_law_rows "_law_rows" = true)
    (k_law_rows : PySem.W.keepIn K (.ref f_law_rows) = true)
    (a_law_exchanged : PySem.W.nsIn K mainGlobals "_law_exchanged" = some (some (.ref f_law_exchanged)))
    (l_law_exchanged : K.lookup f_law_exchanged = some ⟨oc_law_exchanged, od_law_exchanged, .func (PySem.W.fnOf "_law_exchanged" "_law_exchanged" (defArgs s_law_exchanged) (defBody s_law_exchanged) (defScope s_law_exchanged) .none kV_law_exchanged dc_law_exchanged pm_law_exchanged an_law_exchanged cd_law_exchanged ct_law_exchanged), sl_law_exchanged⟩)
    (c_law_exchanged : PySem.W.codeIn K cd_law_exchanged "_law_exchanged" = true)
    (k_law_exchanged : PySem.W.keepIn K (.ref f_law_exchanged) = true)
    (a_law_changed : PySem.W.nsIn K mainGlobals "_law_changed" = some (some (.ref f_law_changed)))
    (l_law_changed : K.lookup f_law_changed = some ⟨oc_law_changed, od_law_changed, .func (PySem.W.fnOf "_law_changed" "_law_changed" (defArgs s_law_changed) (defBody s_law_changed) (defScope s_law_changed) .none kV_law_changed dc_law_changed pm_law_changed an_law_changed cd_law_changed ct_law_changed), sl_law_changed⟩)
    (c_law_changed : PySem.W.codeIn K cd_law_changed "_law_changed" = true)
    (k_law_changed : PySem.W.keepIn K (.ref f_law_changed) = true)
    (a_law_own : PySem.W.nsIn K mainGlobals "_law_own" = some (some (.ref f_law_own)))
    (l_law_own : K.lookup f_law_own = some ⟨oc_law_own, od_law_own, .func (PySem.W.fnOf "_law_own" "_law_own" (defArgs s_law_own) (defBody s_law_own) (defScope s_law_own) .none kV_law_own dc_law_own pm_law_own an_law_own cd_law_own ct_law_own), sl_law_own⟩)
    (c_law_own : PySem.W.codeIn K cd_law_own "_law_own" = true)
    (k_law_own : PySem.W.keepIn K (.ref f_law_own) = true)
    (a_law_right : PySem.W.nsIn K mainGlobals "_law_right" = some (some (.ref f_law_right)))
    (l_law_right : K.lookup f_law_right = some ⟨oc_law_right, od_law_right, .func (PySem.W.fnOf "_law_right" "_law_right" (defArgs s_law_right) (defBody s_law_right) (defScope s_law_right) .none kV_law_right dc_law_right pm_law_right an_law_right cd_law_right ct_law_right), sl_law_right⟩)
    (c_law_right : PySem.W.codeIn K cd_law_right "_law_right" = true)
    (k_law_right : PySem.W.keepIn K (.ref f_law_right) = true)
    (a_law_refused : PySem.W.nsIn K mainGlobals "_law_refused" = some (some (.ref f_law_refused)))
    (l_law_refused : K.lookup f_law_refused = some ⟨oc_law_refused, od_law_refused, .func (PySem.W.fnOf "_law_refused" "_law_refused" (defArgs s_law_refused) (defBody s_law_refused) (defScope s_law_refused) .none kV_law_refused dc_law_refused pm_law_refused an_law_refused cd_law_refused ct_law_refused), sl_law_refused⟩)
    (c_law_refused : PySem.W.codeIn K cd_law_refused "_law_refused" = true)
    (k_law_refused : PySem.W.keepIn K (.ref f_law_refused) = true)
    (a_law : PySem.W.nsIn K mainGlobals "law" = some (some (.ref f_law)))
    (l_law : K.lookup f_law = some ⟨oc_law, od_law, .func (PySem.W.fnOf "law" "law" (defArgs s_law) (defBody s_law) (defScope s_law) .none kV_law dc_law pm_law an_law cd_law ct_law), sl_law⟩)
    (c_law : PySem.W.codeIn K cd_law "law" = true)
    (k_law : PySem.W.keepIn K (.ref f_law) = true)
    (kC_NoHistory : PySem.W.keepIn K (.ref C_NoHistory) = true)
    (kC_NoNumber : PySem.W.keepIn K (.ref C_NoNumber) = true)
    (exC_NoHistory : PySem.W.subIn K (.ref C_NoHistory) (.type "BaseException") = some true)
    (hdx_NoHistory : PySem.W.hasDictIn K C_NoHistory = true)
    (ty_NoHistory : PySem.W.typeIn K (.ref C_NoHistory) = some (.type "type"))
    (ss_NoHistory : PySem.W.subIn K (.ref C_NoHistory) (.ref C_NoHistory) = some true)
    (exC_NoNumber : PySem.W.subIn K (.ref C_NoNumber) (.type "BaseException") = some true)
    (hdx_NoNumber : PySem.W.hasDictIn K C_NoNumber = true)
    (ty_NoNumber : PySem.W.typeIn K (.ref C_NoNumber) = some (.type "type"))
    (ss_NoNumber : PySem.W.subIn K (.ref C_NoNumber) (.ref C_NoNumber) = some true)
    (opq : PySem.W.nsIn K PySem.cStatics "thirdparty.any" = some none)
    (xhn : PySem.W.specialIn K (.builtin "object.__class__") "__get__" = some (some (.builtin "getset_descriptor.__get__")))
    (xht : PySem.W.takesIn K (.builtin "object.__class__") = some true)
    (ii_NoHistory : PySem.W.findIn K (.ref C_NoHistory) "__init__" = some (some (.ref fI_NoHistory)))
    (lI_NoHistory : K.lookup fI_NoHistory = some ⟨ocI_NoHistory, odI_NoHistory, .func (PySem.W.ksFn "__init__" "NoHistory.__init__" (defArgs (inClass (topS 3) 0)) (defBody (inClass (topS 3) 0)) (defScope (inClass (topS 3) 0)) .none kVI_NoHistory dcI_NoHistory pmI_NoHistory anI_NoHistory (.ref cda_NoHistory) ctI_NoHistory cc_NoHistory), slI_NoHistory⟩)
    (coI_NoHistory : PySem.W.codeIn K (.ref cda_NoHistory) "NoHistory.__init__" = true)
    (cdI_NoHistory : K.lookup cda_NoHistory = some ⟨cclI_NoHistory, cddI_NoHistory, .fields vsI_NoHistory, ccsI_NoHistory⟩)
    (vfI_NoHistory : vsI_NoHistory[2]? = some (.str (Str.ofString "/claim/cut.py") tfI_NoHistory))
    (clI_NoHistory : K.lookup cc_NoHistory = some ⟨clI_NoHistory, cldI_NoHistory, .cell (some (.ref C_NoHistory)), cslI_NoHistory⟩)
    (in_NoHistory : PySem.W.excInitIn K C_NoHistory veT "ValueError.__new__" = true)
    (ov_NoHistory : PySem.W.excOver K C_NoHistory veT = true)
    (sax_NoHistory : PySem.W.findIn K (.ref C_NoHistory) "__setattr__" = some (some (.builtin "object.__setattr__")))
    (nf_NoHistory : PySem.W.findIn K (.ref C_NoHistory) "found" = some none)
    (sB_NoHistory : PySem.W.subIn K (.ref C_NoHistory) (.type "ValueError") = some true)
    (sC_NoHistory : PySem.W.mroIn K C_NoHistory (.ref C_NoHistory) = some true)
    (ti_NoHistory : PySem.W.typeIn K (.ref fI_NoHistory) = some (.type "function"))
    (sup_NoHistory : PySem.W.ks_superIn K C_NoHistory C_NoHistory "__init__" = some (some (.builtin "ValueError.__init__")))
    (xga_NoHistory : PySem.W.findIn K (.ref C_NoHistory) "__getattribute__" = some (some (.builtin "BaseException.__getattribute__")))
    (xgg_NoHistory : PySem.W.findIn K (.ref C_NoHistory) "__getattr__" = some none)
    (xha_NoHistory : PySem.W.findIn K (.ref C_NoHistory) "__class__" = some (some (.builtin "object.__class__")))
    (xhm_NoHistory : PySem.W.mroIn K C_NoHistory (.type "object") = some true)
    (sb_NoHistory_NoHistory : PySem.W.subIn K (.ref C_NoHistory) (.ref C_NoHistory) = some true)
    (ii_NoNumber : PySem.W.findIn K (.ref C_NoNumber) "__init__" = some (some (.ref fI_NoNumber)))
    (lI_NoNumber : K.lookup fI_NoNumber = some ⟨ocI_NoNumber, odI_NoNumber, .func (PySem.W.ksFn "__init__" "NoNumber.__init__" (defArgs (inClass (topS 2) 0)) (defBody (inClass (topS 2) 0)) (defScope (inClass (topS 2) 0)) .none kVI_NoNumber dcI_NoNumber pmI_NoNumber anI_NoNumber (.ref cda_NoNumber) ctI_NoNumber cc_NoNumber), slI_NoNumber⟩)
    (coI_NoNumber : PySem.W.codeIn K (.ref cda_NoNumber) "NoNumber.__init__" = true)
    (cdI_NoNumber : K.lookup cda_NoNumber = some ⟨cclI_NoNumber, cddI_NoNumber, .fields vsI_NoNumber, ccsI_NoNumber⟩)
    (vfI_NoNumber : vsI_NoNumber[2]? = some (.str (Str.ofString "/claim/cut.py") tfI_NoNumber))
    (clI_NoNumber : K.lookup cc_NoNumber = some ⟨clI_NoNumber, cldI_NoNumber, .cell (some (.ref C_NoNumber)), cslI_NoNumber⟩)
    (in_NoNumber : PySem.W.excInitIn K C_NoNumber veT "ValueError.__new__" = true)
    (ov_NoNumber : PySem.W.excOver K C_NoNumber veT = true)
    (sax_NoNumber : PySem.W.findIn K (.ref C_NoNumber) "__setattr__" = some (some (.builtin "object.__setattr__")))
    (nf_NoNumber : PySem.W.findIn K (.ref C_NoNumber) "found" = some none)
    (sB_NoNumber : PySem.W.subIn K (.ref C_NoNumber) (.type "ValueError") = some true)
    (sC_NoNumber : PySem.W.mroIn K C_NoNumber (.ref C_NoNumber) = some true)
    (ti_NoNumber : PySem.W.typeIn K (.ref fI_NoNumber) = some (.type "function"))
    (sup_NoNumber : PySem.W.ks_superIn K C_NoNumber C_NoNumber "__init__" = some (some (.builtin "ValueError.__init__")))
    (xga_NoNumber : PySem.W.findIn K (.ref C_NoNumber) "__getattribute__" = some (some (.builtin "BaseException.__getattribute__")))
    (xgg_NoNumber : PySem.W.findIn K (.ref C_NoNumber) "__getattr__" = some none)
    (xha_NoNumber : PySem.W.findIn K (.ref C_NoNumber) "__class__" = some (some (.builtin "object.__class__")))
    (xhm_NoNumber : PySem.W.mroIn K C_NoNumber (.type "object") = some true)
    (sb_NoNumber_NoHistory : PySem.W.subIn K (.ref C_NoNumber) (.ref C_NoHistory) = some false)
    (x_hn : PySem.W.specialIn K (.builtin "object.__class__") "__get__" = some (some (.builtin "getset_descriptor.__get__")))
    (x_htk : PySem.W.takesIn K (.builtin "object.__class__") = some true)
    (z_all : PySem.W.nsIn K mainGlobals "all" = some none)
    (z_bool : PySem.W.nsIn K mainGlobals "bool" = some none)
    (z_int : PySem.W.nsIn K mainGlobals "int" = some none)
    (z_isinstance : PySem.W.nsIn K mainGlobals "isinstance" = some none)
    (z_len : PySem.W.nsIn K mainGlobals "len" = some none)
    (z_list : PySem.W.nsIn K mainGlobals "list" = some none)
    (z_max : PySem.W.nsIn K mainGlobals "max" = some none)
    (z_range : PySem.W.nsIn K mainGlobals "range" = some none)
    (z_str : PySem.W.nsIn K mainGlobals "str" = some none)
    (z_super : PySem.W.nsIn K mainGlobals "super" = some none)
    (z_tuple : PySem.W.nsIn K mainGlobals "tuple" = some none)
    (g_LEAST_MEMBERS : PySem.W.nsIn K mainGlobals "LEAST_MEMBERS" = some (some (.int 2 t_LEAST_MEMBERS)))
    (g_MOST_LETTERS : PySem.W.nsIn K mainGlobals "MOST_LETTERS" = some (some (.int 30 t_MOST_LETTERS)))
    (g_MOST_MEMBERS : PySem.W.nsIn K mainGlobals "MOST_MEMBERS" = some (some (.int 5 t_MOST_MEMBERS)))
    (g_MOST_ROWS : PySem.W.nsIn K mainGlobals "MOST_ROWS" = some (some (.int 400 t_MOST_ROWS)))
    (g_MOST_SIGNS : PySem.W.nsIn K mainGlobals "MOST_SIGNS" = some (some (.int 8 t_MOST_SIGNS))) :
    ∃ fd : FuncData, (∀ (s : Shared) (v : Value), BindsTo s fd ⟨[v], []⟩ [("script", v)]) ∧ ∀ base : Heap, K.In base → base.Ns mainGlobals mg → FnOk l.prog w K mg base CX0 9 fa fd ["script"] (sp_law K) := by
  have ee := hfa.symm.trans (PySem.W.mg_of X G a_law)
  cases ee
  have F_is_whole : FunD K "is_whole" "is_whole" (defArgs s_is_whole) (defBody s_is_whole) (defScope s_is_whole) [.non] [] f_is_whole _ := ⟨⟨_, _, _, _, _, _, _, _, _, _, rfl, l_is_whole, c_is_whole, .inr ⟨(by intro z; cases z), _, _, _, _, rfl, e_is_whole, rfl, (.cons rfl .nil)⟩, .inl rfl⟩, k_is_whole⟩
  obtain ⟨ds_is_whole_2, v_is_whole_2, b_is_whole_2⟩ := F_is_whole.binds1 (ps := ["thing", "low", "high"]) 2 0 (by intro z; cases z) rfl (fun _ _ _ _ _ _ _ us its h1 h2 => match us, its, h1, h2 with | [_, _], [_], _, _ => ⟨_, rfl, rfl⟩)
  obtain ⟨ds_is_whole, v_is_whole, b_is_whole⟩ := F_is_whole.binds1 (ps := ["thing", "low", "high"]) 3 1 (by intro z; cases z) rfl (fun _ _ _ _ _ _ _ us its h1 h2 => match us, its, h1, h2 with | [_, _, _], [_], _, _ => ⟨_, rfl, rfl⟩)
  cases v_is_whole
  have F_is_text_of := fun_mk (st := s_is_text_of) l_is_text_of c_is_text_of k_is_text_of
  have b_is_text_of := F_is_text_of.binds (ps := ["thing", "first", "last", "most"]) fun _ _ _ _ _ _ us hl => match us, hl with | [_, _, _, _], _ => rfl
  have F_is_word := fun_mk (st := s_is_word) l_is_word c_is_word k_is_word
  have b_is_word := F_is_word.binds (ps := ["thing"]) fun _ _ _ _ _ _ us hl => match us, hl with | [_], _ => rfl
  have F_is_list := fun_mk (st := s_is_list) l_is_list c_is_list k_is_list
  have b_is_list := F_is_list.binds (ps := ["thing"]) fun _ _ _ _ _ _ us hl => match us, hl with | [_], _ => rfl
  have F_is_member := fun_mk (st := s_is_member) l_is_member c_is_member k_is_member
  have b_is_member := F_is_member.binds (ps := ["thing", "members"]) fun _ _ _ _ _ _ us hl => match us, hl with | [_, _], _ => rfl
  have F_is_ident : FunD K "is_ident" "is_ident" (defArgs s_is_ident) (defBody s_is_ident) (defScope s_is_ident) [.non] [] f_is_ident _ := ⟨⟨_, _, _, _, _, _, _, _, _, _, rfl, l_is_ident, c_is_ident, .inr ⟨(by intro z; cases z), _, _, _, _, rfl, e_is_ident, rfl, (.cons rfl .nil)⟩, .inl rfl⟩, k_is_ident⟩
  obtain ⟨ds_is_ident_2, v_is_ident_2, b_is_ident_2⟩ := F_is_ident.binds1 (ps := ["thing", "members", "high"]) 2 0 (by intro z; cases z) rfl (fun _ _ _ _ _ _ _ us its h1 h2 => match us, its, h1, h2 with | [_, _], [_], _, _ => ⟨_, rfl, rfl⟩)
  obtain ⟨ds_is_ident, v_is_ident, b_is_ident⟩ := F_is_ident.binds1 (ps := ["thing", "members", "high"]) 3 1 (by intro z; cases z) rfl (fun _ _ _ _ _ _ _ us its h1 h2 => match us, its, h1, h2 with | [_, _, _], [_], _, _ => ⟨_, rfl, rfl⟩)
  cases v_is_ident
  have F_check_members := fun_mk (st := s_check_members) l_check_members c_check_members k_check_members
  have b_check_members := F_check_members.binds (ps := ["members"]) fun _ _ _ _ _ _ us hl => match us, hl with | [_], _ => rfl
  have F_is_row := fun_mk (st := s_is_row) l_is_row c_is_row k_is_row
  have b_is_row := F_is_row.binds (ps := ["thing", "members"]) fun _ _ _ _ _ _ us hl => match us, hl with | [_, _], _ => rfl
  have F_own_rows := fun_mk (st := s_own_rows) l_own_rows c_own_rows k_own_rows
  have b_own_rows := F_own_rows.binds (ps := ["rows", "member"]) fun _ _ _ _ _ _ us hl => match us, hl with | [_, _], _ => rfl
  have F_is_history := fun_mk (st := s_is_history) l_is_history c_is_history k_is_history
  have b_is_history := F_is_history.binds (ps := ["members", "rows"]) fun _ _ _ _ _ _ us hl => match us, hl with | [_, _], _ => rfl
  have F_check_history := fun_mk (st := s_check_history) l_check_history c_check_history k_check_history
  have b_check_history := F_check_history.binds (ps := ["members", "rows"]) fun _ _ _ _ _ _ us hl => match us, hl with | [_, _], _ => rfl
  have F_alike_to := fun_mk (st := s_alike_to) l_alike_to c_alike_to k_alike_to
  have b_alike_to := F_alike_to.binds (ps := ["members", "rows", "others"]) fun _ _ _ _ _ _ us hl => match us, hl with | [_, _, _], _ => rfl
  have F_law_cell_at := fun_mk (st := s_law_cell_at) l_law_cell_at c_law_cell_at k_law_cell_at
  have b_law_cell_at := F_law_cell_at.binds (ps := ["script", "k"]) fun _ _ _ _ _ _ us hl => match us, hl with | [_, _], _ => rfl
  have F_law_take := fun_mk (st := s_law_take) l_law_take c_law_take k_law_take
  have b_law_take := F_law_take.binds (ps := ["pool", "size"]) fun _ _ _ _ _ _ us hl => match us, hl with | [_, _], _ => rfl
  have F_law_pool := fun_mk (st := s_law_pool) l_law_pool c_law_pool k_law_pool
  have b_law_pool := F_law_pool.binds (ps := ["cell"]) fun _ _ _ _ _ _ us hl => match us, hl with | [_], _ => rfl
  have F_law_model := fun_mk (st := s_law_model) l_law_model c_law_model k_law_model
  have b_law_model := F_law_model.binds (ps := ["members"]) fun _ _ _ _ _ _ us hl => match us, hl with | [_], _ => rfl
  have F_law_otherwise := fun_mk (st := s_law_otherwise) l_law_otherwise c_law_otherwise k_law_otherwise
  have b_law_otherwise := F_law_otherwise.binds (ps := ["model", "member", "place", "ident"]) fun _ _ _ _ _ _ us hl => match us, hl with | [_, _, _, _], _ => rfl
  have F_law_has := fun_mk (st := s_law_has) l_law_has c_law_has k_law_has
  have b_law_has := F_law_has.binds (ps := ["model", "rows", "ident"]) fun _ _ _ _ _ _ us hl => match us, hl with | [_, _, _], _ => rfl
  have F_law_why_got := fun_mk (st := s_law_why_got) l_law_why_got c_law_why_got k_law_why_got
  have b_law_why_got := F_law_why_got.binds (ps := ["model", "member", "ident"]) fun _ _ _ _ _ _ us hl => match us, hl with | [_, _, _], _ => rfl
  have F_law_why := fun_mk (st := s_law_why) l_law_why c_law_why k_law_why
  have b_law_why := F_law_why.binds (ps := ["model", "row"]) fun _ _ _ _ _ _ us hl => match us, hl with | [_, _], _ => rfl
  have F_law_go := fun_mk (st := s_law_go) l_law_go c_law_go k_law_go
  have b_law_go := F_law_go.binds (ps := ["model", "row"]) fun _ _ _ _ _ _ us hl => match us, hl with | [_, _], _ => rfl
  have F_law_may := fun_mk (st := s_law_may) l_law_may c_law_may k_law_may
  have b_law_may := F_law_may.binds (ps := ["model", "member"]) fun _ _ _ _ _ _ us hl => match us, hl with | [_, _], _ => rfl
  have F_law_word := fun_mk (st := s_law_word) l_law_word c_law_word k_law_word
  have b_law_word := F_law_word.binds (ps := ["pool"]) fun _ _ _ _ _ _ us hl => match us, hl with | [_], _ => rfl
  have F_law_new_row := fun_mk (st := s_law_new_row) l_law_new_row c_law_new_row k_law_new_row
  have b_law_new_row := F_law_new_row.binds (ps := ["model", "members", "wild", "pool"]) fun _ _ _ _ _ _ us hl => match us, hl with | [_, _, _, _], _ => rfl
  have F_law_rows := fun_mk (st := s_law_rows) l_law_rows c_law_rows k_law_rows
  have b_law_rows := F_law_rows.binds (ps := ["script", "start", "wild"]) fun _ _ _ _ _ _ us hl => match us, hl with | [_, _, _], _ => rfl
  have F_law_exchanged := fun_mk (st := s_law_exchanged) l_law_exchanged c_law_exchanged k_law_exchanged
  have b_law_exchanged := F_law_exchanged.binds (ps := ["rows", "pool"]) fun _ _ _ _ _ _ us hl => match us, hl with | [_, _], _ => rfl
  have F_law_changed := fun_mk (st := s_law_changed) l_law_changed c_law_changed k_law_changed
  have b_law_changed := F_law_changed.binds (ps := ["rows", "members", "pool"]) fun _ _ _ _ _ _ us hl => match us, hl with | [_, _, _], _ => rfl
  have F_law_own := fun_mk (st := s_law_own) l_law_own c_law_own k_law_own
  have b_law_own := F_law_own.binds (ps := ["rows", "member"]) fun _ _ _ _ _ _ us hl => match us, hl with | [_, _], _ => rfl
  have F_law_right := fun_mk (st := s_law_right) l_law_right c_law_right k_law_right
  have b_law_right := F_law_right.binds (ps := ["members", "rows", "others"]) fun _ _ _ _ _ _ us hl => match us, hl with | [_, _, _], _ => rfl
  have F_law_refused := fun_mk (st := s_law_refused) l_law_refused c_law_refused k_law_refused
  have b_law_refused := F_law_refused.binds (ps := ["members", "rows", "others"]) fun _ _ _ _ _ _ us hl => match us, hl with | [_, _, _], _ => rfl
  have F_law := fun_mk (st := s_law) l_law c_law k_law
  have b_law := F_law.binds (ps := ["script"]) fun _ _ _ _ _ _ us hl => match us, hl with | [_], _ => rfl
  have g_NoHistory := PySem.W.mg_of X G aC_NoHistory
  have g_NoNumber := PySem.W.mg_of X G aC_NoNumber
  have ox_NoHistory : OexS K C_NoHistory fI_NoHistory "ValueError" "ValueError.__new__" "ValueError.__init__" _ "found" := {
    base := PySem.F.excBase_ValueError, wrap := PySem.W.kxs_ValueError, stor := PySem.F.store_ValueError, ini := in_NoHistory, over := ov_NoHistory, hd := hdx_NoHistory, sa := sax_NoHistory, nf := nf_NoHistory, exC := exC_NoHistory, sB := sB_NoHistory, sC := sC_NoHistory, tyC := ty_NoHistory, kC := kC_NoHistory, ii := ii_NoHistory, ti := ti_NoHistory, sup := sup_NoHistory, opq := opq,
    fn := ⟨⟨_, _, _, _, _, _, _, _, _, _, _, _, _, _, _, _, _, _, _, _, _, _, _, _, _, _, _, _, _, _, _, _, _, _, _, lI_NoHistory, coI_NoHistory, cdI_NoHistory, vfI_NoHistory, clI_NoHistory, fun _ _ _ => .of_eq rfl, fun _ _ _ => .of_eq rfl, ⟨_, fun _ => rfl⟩, rfl, rfl, rfl, by decide +kernel, by decide +kernel, by decide +kernel, by decide +kernel, by decide +kernel⟩⟩ }
  have xf_NoHistory : XfC K C_NoHistory := ⟨xga_NoHistory, xgg_NoHistory, exC_NoHistory, hdx_NoHistory⟩
  have xc_NoHistory : ExcC K C_NoHistory := ⟨xga_NoHistory, xgg_NoHistory, exC_NoHistory, hdx_NoHistory, xha_NoHistory, xhn, xht, xhm_NoHistory⟩
  have ox_NoNumber : OexS K C_NoNumber fI_NoNumber "ValueError" "ValueError.__new__" "ValueError.__init__" _ "found" := {
    base := PySem.F.excBase_ValueError, wrap := PySem.W.kxs_ValueError, stor := PySem.F.store_ValueError, ini := in_NoNumber, over := ov_NoNumber, hd := hdx_NoNumber, sa := sax_NoNumber, nf := nf_NoNumber, exC := exC_NoNumber, sB := sB_NoNumber, sC := sC_NoNumber, tyC := ty_NoNumber, kC := kC_NoNumber, ii := ii_NoNumber, ti := ti_NoNumber, sup := sup_NoNumber, opq := opq,
    fn := ⟨⟨_, _, _, _, _, _, _, _, _, _, _, _, _, _, _, _, _, _, _, _, _, _, _, _, _, _, _, _, _, _, _, _, _, _, _, lI_NoNumber, coI_NoNumber, cdI_NoNumber, vfI_NoNumber, clI_NoNumber, fun _ _ _ => .of_eq rfl, fun _ _ _ => .of_eq rfl, ⟨_, fun _ => rfl⟩, rfl, rfl, rfl, by decide +kernel, by decide +kernel, by decide +kernel, by decide +kernel, by decide +kernel⟩⟩ }
  have xf_NoNumber : XfC K C_NoNumber := ⟨xga_NoNumber, xgg_NoNumber, exC_NoNumber, hdx_NoNumber⟩
  have xc_NoNumber : ExcC K C_NoNumber := ⟨xga_NoNumber, xgg_NoNumber, exC_NoNumber, hdx_NoNumber, xha_NoNumber, xhn, xht, xhm_NoNumber⟩
  let T : Tx K mg := { f_is_whole := f_is_whole, d_is_whole := _, F_is_whole := F_is_whole, m_is_whole := PySem.W.mg_of X G a_is_whole, k_is_whole := k_is_whole, ds_is_whole_2 := ds_is_whole_2, v_is_whole_2 := v_is_whole_2, b_is_whole_2 := b_is_whole_2, b_is_whole := b_is_whole, f_is_text_of := f_is_text_of, d_is_text_of := _, F_is_text_of := F_is_text_of, m_is_text_of := PySem.W.mg_of X G a_is_text_of, k_is_text_of := k_is_text_of, b_is_text_of := b_is_text_of, f_is_word := f_is_word, d_is_word := _, F_is_word := F_is_word, m_is_word := PySem.W.mg_of X G a_is_word, k_is_word := k_is_word, b_is_word := b_is_word, f_is_list := f_is_list, d_is_list := _, F_is_list := F_is_list, m_is_list := PySem.W.mg_of X G a_is_list, k_is_list := k_is_list, b_is_list := b_is_list, f_is_member := f_is_member, d_is_member := _, F_is_member := F_is_member, m_is_member := PySem.W.mg_of X G a_is_member, k_is_member := k_is_member, b_is_member := b_is_member, f_is_ident := f_is_ident, d_is_ident := _, F_is_ident := F_is_ident, m_is_ident := PySem.W.mg_of X G a_is_ident, k_is_ident := k_is_ident, ds_is_ident_2 := ds_is_ident_2, v_is_ident_2 := v_is_ident_2, b_is_ident_2 := b_is_ident_2, b_is_ident := b_is_ident, f_check_members := f_check_members, d_check_members := _, F_check_members := F_check_members, m_check_members := PySem.W.mg_of X G a_check_members, k_check_members := k_check_members, b_check_members := b_check_members, f_is_row := f_is_row, d_is_row := _, F_is_row := F_is_row, m_is_row := PySem.W.mg_of X G a_is_row, k_is_row := k_is_row, b_is_row := b_is_row, f_own_rows := f_own_rows, d_own_rows := _, F_own_rows := F_own_rows, m_own_rows := PySem.W.mg_of X G a_own_rows, k_own_rows := k_own_rows, b_own_rows := b_own_rows, f_is_history := f_is_history, d_is_history := _, F_is_history := F_is_history, m_is_history := PySem.W.mg_of X G a_is_history, k_is_history := k_is_history, b_is_history := b_is_history, f_check_history := f_check_history, d_check_history := _, F_check_history := F_check_history, m_check_history := PySem.W.mg_of X G a_check_history, k_check_history := k_check_history, b_check_history := b_check_history, f_alike_to := f_alike_to, d_alike_to := _, F_alike_to := F_alike_to, m_alike_to := PySem.W.mg_of X G a_alike_to, k_alike_to := k_alike_to, b_alike_to := b_alike_to, f_law_cell_at := f_law_cell_at, d_law_cell_at := _, F_law_cell_at := F_law_cell_at, m_law_cell_at := PySem.W.mg_of X G a_law_cell_at, k_law_cell_at := k_law_cell_at, b_law_cell_at := b_law_cell_at, f_law_take := f_law_take, d_law_take := _, F_law_take := F_law_take, m_law_take := PySem.W.mg_of X G a_law_take, k_law_take := k_law_take, b_law_take := b_law_take, f_law_pool := f_law_pool, d_law_pool := _, F_law_pool := F_law_pool, m_law_pool := PySem.W.mg_of X G a_law_pool, k_law_pool := k_law_pool, b_law_pool := b_law_pool, f_law_model := f_law_model, d_law_model := _, F_law_model := F_law_model, m_law_model := PySem.W.mg_of X G a_law_model, k_law_model := k_law_model, b_law_model := b_law_model, f_law_otherwise := f_law_otherwise, d_law_otherwise := _, F_law_otherwise := F_law_otherwise, m_law_otherwise := PySem.W.mg_of X G a_law_otherwise, k_law_otherwise := k_law_otherwise, b_law_otherwise := b_law_otherwise, f_law_has := f_law_has, d_law_has := _, F_law_has := F_law_has, m_law_has := PySem.W.mg_of X G a_law_has, k_law_has := k_law_has, b_law_has := b_law_has, f_law_why_got := f_law_why_got, d_law_why_got := _, F_law_why_got := F_law_why_got, m_law_why_got := PySem.W.mg_of X G a_law_why_got, k_law_why_got := k_law_why_got, b_law_why_got := b_law_why_got, f_law_why := f_law_why, d_law_why := _, F_law_why := F_law_why, m_law_why := PySem.W.mg_of X G a_law_why, k_law_why := k_law_why, b_law_why := b_law_why, f_law_go := f_law_go, d_law_go := _, F_law_go := F_law_go, m_law_go := PySem.W.mg_of X G a_law_go, k_law_go := k_law_go, b_law_go := b_law_go, f_law_may := f_law_may, d_law_may := _, F_law_may := F_law_may, m_law_may := PySem.W.mg_of X G a_law_may, k_law_may := k_law_may, b_law_may := b_law_may, f_law_word := f_law_word, d_law_word := _, F_law_word := F_law_word, m_law_word := PySem.W.mg_of X G a_law_word, k_law_word := k_law_word, b_law_word := b_law_word, f_law_new_row := f_law_new_row, d_law_new_row := _, F_law_new_row := F_law_new_row, m_law_new_row := PySem.W.mg_of X G a_law_new_row, k_law_new_row := k_law_new_row, b_law_new_row := b_law_new_row, f_law_rows := f_law_rows, d_law_rows := _, F_law_rows := F_law_rows, m_law_rows := PySem.W.mg_of X G a_law_rows, k_law_rows := k_law_rows, b_law_rows := b_law_rows, f_law_exchanged := f_law_exchanged, d_law_exchanged := _, F_law_exchanged := F_law_exchanged, m_law_exchanged := PySem.W.mg_of X G a_law_exchanged, k_law_exchanged := k_law_exchanged, b_law_exchanged := b_law_exchanged, f_law_changed := f_law_changed, d_law_changed := _, F_law_changed := F_law_changed, m_law_changed := PySem.W.mg_of X G a_law_changed, k_law_changed := k_law_changed, b_law_changed := b_law_changed, f_law_own := f_law_own, d_law_own := _, F_law_own := F_law_own, m_law_own := PySem.W.mg_of X G a_law_own, k_law_own := k_law_own, b_law_own := b_law_own, f_law_right := f_law_right, d_law_right := _, F_law_right := F_law_right, m_law_right := PySem.W.mg_of X G a_law_right, k_law_right := k_law_right, b_law_right := b_law_right, f_law_refused := f_law_refused, d_law_refused := _, F_law_refused := F_law_refused, m_law_refused := PySem.W.mg_of X G a_law_refused, k_law_refused := k_law_refused, b_law_refused := b_law_refused, f_law := fa, d_law := _, F_law := F_law, m_law := PySem.W.mg_of X G a_law, k_law := k_law, b_law := b_law, C_NoHistory := C_NoHistory, g_NoHistory := g_NoHistory, C_NoNumber := C_NoNumber, g_NoNumber := g_NoNumber, exC_NoHistory := exC_NoHistory, hdx_NoHistory := hdx_NoHistory, ty_NoHistory := ty_NoHistory, ss_NoHistory := ss_NoHistory, exC_NoNumber := exC_NoNumber, hdx_NoNumber := hdx_NoNumber, ty_NoNumber := ty_NoNumber, ss_NoNumber := ss_NoNumber, fI_NoHistory := fI_NoHistory, ox_NoHistory := ox_NoHistory, xf_NoHistory := xf_NoHistory, xc_NoHistory := xc_NoHistory, nf_NoHistory := nf_NoHistory, sb_NoHistory_NoHistory := sb_NoHistory_NoHistory, fI_NoNumber := fI_NoNumber, ox_NoNumber := ox_NoNumber, xf_NoNumber := xf_NoNumber, xc_NoNumber := xc_NoNumber, nf_NoNumber := nf_NoNumber, sb_NoNumber_NoHistory := sb_NoNumber_NoHistory, hn := x_hn, htk := x_htk, z_all := PySem.W.mg_none_of X G z_all, z_bool := PySem.W.mg_none_of X G z_bool, z_int := PySem.W.mg_none_of X G z_int, z_isinstance := PySem.W.mg_none_of X G z_isinstance, z_len := PySem.W.mg_none_of X G z_len, z_list := PySem.W.mg_none_of X G z_list, z_max := PySem.W.mg_none_of X G z_max, z_range := PySem.W.mg_none_of X G z_range, z_str := PySem.W.mg_none_of X G z_str, z_super := PySem.W.mg_none_of X G z_super, z_tuple := PySem.W.mg_none_of X G z_tuple, t_LEAST_MEMBERS := t_LEAST_MEMBERS, g_LEAST_MEMBERS := PySem.W.mg_of X G g_LEAST_MEMBERS, t_MOST_LETTERS := t_MOST_LETTERS, g_MOST_LETTERS := PySem.W.mg_of X G g_MOST_LETTERS, t_MOST_MEMBERS := t_MOST_MEMBERS, g_MOST_MEMBERS := PySem.W.mg_of X G g_MOST_MEMBERS, t_MOST_ROWS := t_MOST_ROWS, g_MOST_ROWS := PySem.W.mg_of X G g_MOST_ROWS, t_MOST_SIGNS := t_MOST_SIGNS, g_MOST_SIGNS := PySem.W.mg_of X G g_MOST_SIGNS }
  exact ⟨_, fun s v => .of_eq rfl, fun base _ _ => ok_law T⟩
theorem walk {l : PySem.W.OpenLaw} [PF l.prog] {q : Program} {loose : List Str} {XP : (Str → Option Value) → Heap → Prop} {YP : World → Heap → Prop} {d : DefRec} {K : Params → PySem.W.Frag} (hn : l.most = some 63) (hdf : d.params.defaults = [])
    (hY : ∀ (w : World) (h : Heap), YP w h → (K w.params).In h)
    (F : ∀ (w : World) (mg : Str → Option Value) (fa : Addr) (h : Heap), (K w.params).In h → h.Ns mainGlobals mg → mg d.name = some (.ref fa) →
      ∃ fd : FuncData, (∀ (s : Shared) (u : Value), BindsTo s fd ⟨[u], []⟩ [("script", u)]) ∧ ∀ base : Heap, (K w.params).In base → base.Ns mainGlobals mg → FnOk l.prog w (K w.params) mg base CX0 9 fa fd ["script"] (sp_law (K w.params))) :
    PySem.W.WalkO q loose XP YP l.row.toRowW d [] (fun f vs => PySem.call f vs) :=
  L2.walk_of (n := 63) (k := 9) (x := "script") (CX := fun _ => CX0) (sp := fun w => sp_law (K w.params)) hn (by decide) hdf ⟨rfl, by decide, by decide⟩ hY F (fun _ _ a ns hl _ hS => ⟨a, ns, rfl, hS, hl, fun _ => rfl⟩) fun _ _ _ _ _ z => z
end CH
instance : CH.PF (PySem.Challenge.rw_causehall_k17_alike_histories).prog := ⟨by rfl, by decide +kernel⟩
open PySem PySem.W PyProof.Rows
set_option maxRecDepth 100000 in
set_option maxHeartbeats 0 in
theorem PySem.Challenge.cw_causehall_k17_alike_histories_holds : PySem.Challenge.rw_causehall_k17_alike_histories.Holds := by
  w_on; o_law; k_head; (case hw => w_witness2)
  k_fill
  refine CH.walk (l := PySem.Challenge.rw_causehall_k17_alike_histories) rfl rfl (fun w h Y => PySem.W.kIn_of Y) ?F
  case F =>
    intro w mg fa h KX G hmg
    refine' CH.all_mk KX G hmg ?aC_NoNumber ?aC_NoHistory ?a_is_whole ?l_is_whole ?c_is_whole ?k_is_whole ?e_is_whole ?a_is_text_of ?l_is_text_of ?c_is_text_of ?k_is_text_of ?a_is_word ?l_is_word ?c_is_word ?k_is_word ?a_is_list ?l_is_list ?c_is_list ?k_is_list ?a_is_member ?l_is_member ?c_is_member ?k_is_member ?a_is_ident ?l_is_ident ?c_is_ident ?k_is_ident ?e_is_ident ?a_check_members ?l_check_members ?c_check_members ?k_check_members ?a_is_row ?l_is_row ?c_is_row ?k_is_row ?a_own_rows ?l_own_rows ?c_own_rows ?k_own_rows ?a_is_history ?l_is_history ?c_is_history ?k_is_history ?a_check_history ?l_check_history ?c_check_history ?k_check_history ?a_alike_to ?l_alike_to ?c_alike_to ?k_alike_to ?a_law_cell_at ?l_law_cell_at ?c_law_cell_at ?k_law_cell_at ?a_law_take ?l_law_take ?c_law_take ?k_law_take ?a_law_pool ?l_law_pool ?c_law_pool ?k_law_pool ?a_law_model ?l_law_model ?c_law_model ?k_law_model ?a_law_otherwise ?l_law_otherwise ?c_law_otherwise ?k_law_otherwise ?a_law_has ?l_law_has ?c_law_has ?k_law_has ?a_law_why_got ?l_law_why_got ?c_law_why_got ?k_law_why_got ?a_law_why ?l_law_why ?c_law_why ?k_law_why ?a_law_go ?l_law_go ?c_law_go ?k_law_go ?a_law_may ?l_law_may ?c_law_may ?k_law_may ?a_law_word ?l_law_word ?c_law_word ?k_law_word ?a_law_new_row ?l_law_new_row ?c_law_new_row ?k_law_new_row ?a_law_rows ?l_law_rows ?c_law_rows ?k_law_rows ?a_law_exchanged ?l_law_exchanged ?c_law_exchanged ?k_law_exchanged ?a_law_changed ?l_law_changed ?c_law_changed ?k_law_changed ?a_law_own ?l_law_own ?c_law_own ?k_law_own ?a_law_right ?l_law_right ?c_law_right ?k_law_right ?a_law_refused ?l_law_refused ?c_law_refused ?k_law_refused ?a_law ?l_law ?c_law ?k_law ?kC_NoHistory ?kC_NoNumber ?exC_NoHistory ?hdx_NoHistory ?ty_NoHistory ?ss_NoHistory ?exC_NoNumber ?hdx_NoNumber ?ty_NoNumber ?ss_NoNumber ?opq ?xhn ?xht ?ii_NoHistory ?lI_NoHistory ?coI_NoHistory ?cdI_NoHistory ?vfI_NoHistory ?clI_NoHistory ?in_NoHistory ?ov_NoHistory ?sax_NoHistory ?nf_NoHistory ?sB_NoHistory ?sC_NoHistory ?ti_NoHistory ?sup_NoHistory ?xga_NoHistory ?xgg_NoHistory ?xha_NoHistory ?xhm_NoHistory ?sb_NoHistory_NoHistory ?ii_NoNumber ?lI_NoNumber ?coI_NoNumber ?cdI_NoNumber ?vfI_NoNumber ?clI_NoNumber ?in_NoNumber ?ov_NoNumber ?sax_NoNumber ?nf_NoNumber ?sB_NoNumber ?sC_NoNumber ?ti_NoNumber ?sup_NoNumber ?xga_NoNumber ?xgg_NoNumber ?xha_NoNumber ?xhm_NoNumber ?sb_NoNumber_NoHistory ?x_hn ?x_htk ?z_all ?z_bool ?z_int ?z_isinstance ?z_len ?z_list ?z_max ?z_range ?z_str ?z_super ?z_tuple ?g_LEAST_MEMBERS ?g_MOST_LETTERS ?g_MOST_MEMBERS ?g_MOST_ROWS ?g_MOST_SIGNS
    (case aC_NoNumber => k_is)
    (case aC_NoHistory => k_is)
    (case a_is_whole => k_is)
    (case l_is_whole => k_is)
    (case c_is_whole => k_is)
    (case k_is_whole => k_is)
    (case e_is_whole => k_is)
    (case a_is_text_of => k_is)
    (case l_is_text_of => k_is)
    (case c_is_text_of => k_is)
    (case k_is_text_of => k_is)
    (case a_is_word => k_is)
    (case l_is_word => k_is)
    (case c_is_word => k_is)
    (case k_is_word => k_is)
    (case a_is_list => k_is)
    (case l_is_list => k_is)
    (case c_is_list => k_is)
    (case k_is_list => k_is)
    (case a_is_member => k_is)
    (case l_is_member => k_is)
    (case c_is_member => k_is)
    (case k_is_member => k_is)
    (case a_is_ident => k_is)
    (case l_is_ident => k_is)
    (case c_is_ident => k_is)
    (case k_is_ident => k_is)
    (case e_is_ident => k_is)
    (case a_check_members => k_is)
    (case l_check_members => k_is)
    (case c_check_members => k_is)
    (case k_check_members => k_is)
    (case a_is_row => k_is)
    (case l_is_row => k_is)
    (case c_is_row => k_is)
    (case k_is_row => k_is)
    (case a_own_rows => k_is)
    (case l_own_rows => k_is)
    (case c_own_rows => k_is)
    (case k_own_rows => k_is)
    (case a_is_history => k_is)
    (case l_is_history => k_is)
    (case c_is_history => k_is)
    (case k_is_history => k_is)
    (case a_check_history => k_is)
    (case l_check_history => k_is)
    (case c_check_history => k_is)
    (case k_check_history => k_is)
    (case a_alike_to => k_is)
    (case l_alike_to => k_is)
    (case c_alike_to => k_is)
    (case k_alike_to => k_is)
    (case a_law_cell_at => k_is)
    (case l_law_cell_at => k_is)
    (case c_law_cell_at => k_is)
    (case k_law_cell_at => k_is)
    (case a_law_take => k_is)
    (case l_law_take => k_is)
    (case c_law_take => k_is)
    (case k_law_take => k_is)
    (case a_law_pool => k_is)
    (case l_law_pool => k_is)
    (case c_law_pool => k_is)
    (case k_law_pool => k_is)
    (case a_law_model => k_is)
    (case l_law_model => k_is)
    (case c_law_model => k_is)
    (case k_law_model => k_is)
    (case a_law_otherwise => k_is)
    (case l_law_otherwise => k_is)
    (case c_law_otherwise => k_is)
    (case k_law_otherwise => k_is)
    (case a_law_has => k_is)
    (case l_law_has => k_is)
    (case c_law_has => k_is)
    (case k_law_has => k_is)
    (case a_law_why_got => k_is)
    (case l_law_why_got => k_is)
    (case c_law_why_got => k_is)
    (case k_law_why_got => k_is)
    (case a_law_why => k_is)
    (case l_law_why => k_is)
    (case c_law_why => k_is)
    (case k_law_why => k_is)
    (case a_law_go => k_is)
    (case l_law_go => k_is)
    (case c_law_go => k_is)
    (case k_law_go => k_is)
    (case a_law_may => k_is)
    (case l_law_may => k_is)
    (case c_law_may => k_is)
    (case k_law_may => k_is)
    (case a_law_word => k_is)
    (case l_law_word => k_is)
    (case c_law_word => k_is)
    (case k_law_word => k_is)
    (case a_law_new_row => k_is)
    (case l_law_new_row => k_is)
    (case c_law_new_row => k_is)
    (case k_law_new_row => k_is)
    (case a_law_rows => k_is)
    (case l_law_rows => k_is)
    (case c_law_rows => k_is)
    (case k_law_rows => k_is)
    (case a_law_exchanged => k_is)
    (case l_law_exchanged => k_is)
    (case c_law_exchanged => k_is)
    (case k_law_exchanged => k_is)
    (case a_law_changed => k_is)
    (case l_law_changed => k_is)
    (case c_law_changed => k_is)
    (case k_law_changed => k_is)
    (case a_law_own => k_is)
    (case l_law_own => k_is)
    (case c_law_own => k_is)
    (case k_law_own => k_is)
    (case a_law_right => k_is)
    (case l_law_right => k_is)
    (case c_law_right => k_is)
    (case k_law_right => k_is)
    (case a_law_refused => k_is)
    (case l_law_refused => k_is)
    (case c_law_refused => k_is)
    (case k_law_refused => k_is)
    (case a_law => k_is)
    (case l_law => k_is)
    (case c_law => k_is)
    (case k_law => k_is)
    (case kC_NoHistory => k_is)
    (case kC_NoNumber => k_is)
    (case exC_NoHistory => k_is)
    (case hdx_NoHistory => k_is)
    (case ty_NoHistory => k_is)
    (case ss_NoHistory => k_is)
    (case exC_NoNumber => k_is)
    (case hdx_NoNumber => k_is)
    (case ty_NoNumber => k_is)
    (case ss_NoNumber => k_is)
    (case opq => k_is)
    (case xhn => k_is)
    (case xht => k_is)
    (case ii_NoHistory => k_is)
    (case lI_NoHistory => k_is)
    (case coI_NoHistory => k_is)
    (case cdI_NoHistory => k_is)
    (case vfI_NoHistory => exact rfl)
    (case clI_NoHistory => k_is)
    (case in_NoHistory => kx_is)
    (case ov_NoHistory => kx_is)
    (case sax_NoHistory => k_is)
    (case nf_NoHistory => k_is)
    (case sB_NoHistory => k_is)
    (case sC_NoHistory => k_is)
    (case ti_NoHistory => k_is)
    (case sup_NoHistory => ks_is)
    (case xga_NoHistory => k_is)
    (case xgg_NoHistory => k_is)
    (case xha_NoHistory => k_is)
    (case xhm_NoHistory => k_is)
    (case sb_NoHistory_NoHistory => k_is)
    (case ii_NoNumber => k_is)
    (case lI_NoNumber => k_is)
    (case coI_NoNumber => k_is)
    (case cdI_NoNumber => k_is)
    (case vfI_NoNumber => exact rfl)
    (case clI_NoNumber => k_is)
    (case in_NoNumber => kx_is)
    (case ov_NoNumber => kx_is)
    (case sax_NoNumber => k_is)
    (case nf_NoNumber => k_is)
    (case sB_NoNumber => k_is)
    (case sC_NoNumber => k_is)
    (case ti_NoNumber => k_is)
    (case sup_NoNumber => ks_is)
    (case xga_NoNumber => k_is)
    (case xgg_NoNumber => k_is)
    (case xha_NoNumber => k_is)
    (case xhm_NoNumber => k_is)
    (case sb_NoNumber_NoHistory => k_is)
    (case x_hn => k_is)
    (case x_htk => k_is)
    (case z_all => k_is)
    (case z_bool => k_is)
    (case z_int => k_is)
    (case z_isinstance => k_is)
    (case z_len => k_is)
    (case z_list => k_is)
    (case z_max => k_is)
    (case z_range => k_is)
    (case z_str => k_is)
    (case z_super => k_is)
    (case z_tuple => k_is)
    (case g_LEAST_MEMBERS => k_is)
    (case g_MOST_LETTERS => k_is)
    (case g_MOST_MEMBERS => k_is)
    (case g_MOST_ROWS => k_is)
    (case g_MOST_SIGNS => k_is)
