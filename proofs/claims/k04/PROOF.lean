import PyProof.Rows.All
import Wide.All
import OpenK.AllK
import Wide.FinOn
import HandS.ForMost
import HandS.Wide
import HandS.IsInst
import HandS.Style
import HandS.Defaults
import HandS.Walk
import HandS.Zip
import HandS.ExcOwn
import HandS.ExcField
import HandS.ExcIs
import HandS.ExcInit
import HandS.WordsExc
import HandS.Exc
import HandS.CallSlots
import KE.KExcSuper
import KE.KExcLine
import KE.RegKSuper
import KE.GoesEnum
import HandS.More
import HandS.Deep
import PySem.Challenge.RW_causehall_k04_changes
set_option Elab.async false
set_option linter.all false
set_option maxRecDepth 100000
set_option maxHeartbeats 4000000
namespace CH
open PySem PySem.Spec PyProof.Rows PySem.W PySem.Calls
/-! ### own exceptions whose __init__ says super().__init__('..') and keeps one field -/
abbrev veT : List Value := [.type "ValueError", .type "Exception", .type "BaseException", .type "object"]
abbrev leT : List Value := [.type "LookupError", .type "Exception", .type "BaseException", .type "object"]
/-- the program's file and top -/
class PF (P : Program) : Prop where
  file : (P.main.file : Str) = Str.ofString "/claim/cut.py"
  top : (P.main.scope.names.lookup ("super" : Str)).isSome = false
abbrev initBody (txt f : Str) (p0 p1 p2 p3 p4 p5 p6 p7 p8 p9 : Pos) (j : Nat) : List Stmt :=
  [.Expr (.Call (.Attribute (.Call (.Name "super" p0) [] [] p1) "__init__" p2) [.Constant (.str txt) j p3] [] p4) p5, .Assign [.Attribute (.Name "self" p6) f p7] (.Name f p8) p9]
abbrev initScope (f : Str) : Scope := { kind := .function, names := [(Str.ofString "self", .local), (f, .local), (Str.ofString "__class__", .free), (Str.ofString "super", .globalImplicit)], isGenerator := false, isCoroutine := false, more := [] }
/-- what super().__init__('..') is, line by line -/
def SupEv (txt : Str) (p0 p1 p2 p3 p4 : Pos) (j : Nat) : Prop := ∃ pl : Env → Sem Bool, ∀ env : Env, eval (.Call (.Attribute (.Call (.Name "super" p0) [] [] p1) "__init__" p2) [.Constant (.str txt) j p3] [] p4) env = (do
  let ov ← attributeBase (.Call (.Name "super" p0) [] [] p1) "__init__" env (eval (.Call (.Name "super" p0) [] [] p1) env)
  standAt p2.atName
  let (f, first) ← holding [ov] (getMethod ov "__init__" (pl env))
  callWith p4 f first (backTo p4 (starEach [.Constant (.str txt) j p3] env)) [])
/-- the function at fI is such an __init__ of the class at C -/
structure OexF (K : Frag) (C fI : Addr) (f : Str) : Prop where
  ex : ∃ (oc : Value) (od an : Option Addr) (osl : Array (Option Value)) (q : Str) (params : Arguments) (scope : Scope) (dV kV doc pm ct : Value) (cc cda : Addr) (txt : Str) (p0 p1 p2 p3 p4 p5 p6 p7 p8 p9 : Pos) (j : Nat) (ccl cl : Value) (cdd cld : Option Addr) (ccs csl : Array (Option Value)) (vs : Array Value) (tf : Tok) (ar : Arg),
    K.lookup fI = some ⟨oc, od, .func (ksFn "__init__" q params (initBody txt f p0 p1 p2 p3 p4 p5 p6 p7 p8 p9 j) scope dV kV doc pm an (.ref cda) ct cc), osl⟩ ∧
    codeIn K (.ref cda) q = true ∧ K.lookup cda = some ⟨ccl, cdd, .fields vs, ccs⟩ ∧ vs[2]? = some (.str (Str.ofString "/claim/cut.py") tf) ∧ K.lookup cc = some ⟨cl, cld, .cell (some (.ref C)), csl⟩ ∧
    (∀ s : Shared, ∀ a b : Value, BindsTo s (ksFn "__init__" q params (initBody txt f p0 p1 p2 p3 p4 p5 p6 p7 p8 p9 j) scope dV kV doc pm an (.ref cda) ct cc) ⟨[a, b], []⟩ [("self", a), (f, b)]) ∧
    (∀ s : Shared, ∀ a b : Value, BindsTo s (ksFn "__init__" q params (initBody txt f p0 p1 p2 p3 p4 p5 p6 p7 p8 p9 j) scope dV kV doc pm an (.ref cda) ct cc) ⟨[a], [(f, b)]⟩ [("self", a), (f, b)]) ∧
    SupEv txt p0 p1 p2 p3 p4 j ∧ (params.posonlyargs ++ params.args).head? = some ar ∧ ar.arg = Str.ofString "self" ∧ scope = initScope f ∧
    (f == Str.ofString "self") = false ∧ (f == Str.ofString "__debug__") = false ∧ (Str.ofString "self" == f) = false ∧ (Str.ofString "__class__" == f) = false ∧ (Str.ofString "super" == f) = false
/-- an own exception class at C, its __init__ at fI, its field f -/
structure OexS (K : Frag) (C fI : Addr) (B newId initId : String) (bmB : List Value) (f : Str) : Prop where
  base : ExcBaseFacts B newId initId bmB
  wrap : KxsFacts B initId
  stor : StoreFacts B bmB "object.__setattr__" "object"
  ini : excInitIn K C bmB newId = true
  over : excOver K C bmB = true
  hd : hasDictIn K C = true
  sa : findIn K (.ref C) "__setattr__" = some (some (.builtin "object.__setattr__"))
  nf : findIn K (.ref C) f = some none
  exC : subIn K (.ref C) (.type "BaseException") = some true
  sB : subIn K (.ref C) (.type B) = some true
  sC : mroIn K C (.ref C) = some true
  tyC : typeIn K (.ref C) = some (.type "type")
  kC : keepIn K (.ref C) = true
  ii : findIn K (.ref C) "__init__" = some (some (.ref fI))
  ti : typeIn K (.ref fI) = some (.type "function")
  sup : ks_superIn K C C "__init__" = some (some (.builtin initId))
  opq : nsIn K cStatics "thirdparty.any" = some none
  fn : OexF K C fI f
theorem cls_obj {K : Frag} {C : Addr} {q : Bool} (h : hasDictIn K C = true) : ∃ cd od dd sl, K.lookup C = some ⟨od, dd, .cls cd, sl⟩ ∧ clsIn K C = some cd := by
  obtain ⟨cd, hc, _⟩ := any_some h
  have hc' := hc
  unfold clsIn at hc'
  split at hc'
  · rename_i c d cd' sl ho
    cases hc'
    exact ⟨cd, c, d, sl, ho, hc⟩
  · cases hc'
section
variable {P : Program} {w : World} {A : Around} {R : Result → Shared → Prop} {h : Heap} {g : Array GenState} {d : Drawn} {t : Nat} {os : OsState} {K : Frag} {C fI e t0 : Addr} {B newId initId : String} {bmB : List Value} {f : Str} {u : Value} {mg mb : Str → Option Value} {args : Args}
theorem ns1_one {h : Heap} {dx : Addr} {f : Str} {u : Value} {hs : Int} {tk : Tok} {n : Nat} (e : h.get? dx = some (dictOf [⟨hs, .str f tk, u⟩] n)) : h.Ns1 dx (fun y => if y = f then some u else none) := by
  refine ⟨_, _, _, e, rfl, ?_, ?_, fun y => ?_⟩
  · intro z hz
    simp at hz
    subst hz
    exact ⟨f, tk, rfl⟩
  · exact List.pairwise_singleton ..
  · by_cases hy : y = f
    · subst hy
      simp [nsFind, findBy, Value.isStr]
    · have hy' : (f == y) = false := by simpa using fun z => hy z.symm
      simp [nsFind, findBy, Value.isStr, hy, hy']
theorem einit_run (hP : PF P) (T : OexS K C fI B newId initId bmB f) (X : K.In h) (hKe : K.lookup e = none) (hg : h.Ns mainGlobals mg) (hs : mg "super" = none) (hb : h.Ns builtinsNs mb) (hbs : mb "super" = some (.type "super")) (hlim : h.NoLimit) (hroom : A.depth < recursionLimit)
    (hge : mainGlobals ≠ e) (hbe : builtinsNs ≠ e) (he : h.get? e = some (excObj C t0 none .none)) (ha : args = ⟨[.ref e, u], []⟩ ∨ args = ⟨[.ref e], [(f, u)]⟩)
    (hq : ∀ h' t1 dx tk', (∀ b o, b ≠ e → h.get? b = some o → h'.get? b = some o) → h.objs.size ≤ dx → h'.get? e = some (excObj C t1 (some dx) .none) →
      h'.Ns1 dx (fun y => if y = f then some u else none) → R (.ok (.ret .none)) ⟨h', g, d, tk', os⟩) :
    codeAny (model P w) A (.call (.ref fI) args) R ⟨h, g, d, t, os⟩ := by
  obtain ⟨oc, od, an, osl, q, params, scope, dV, kV, doc, pm, ct, cc, cda, txt, p0, p1, p2, p3, p4, p5, p6, p7, p8, p9, j, ccl, cl, cdd, cld, ccs, csl, vs, tf, ar, lf, hcd, lcode, hvs, lcell, hb1, hb2, ⟨pl, hev⟩, hpar, har, rfl, n1, n2, n3, n4, n5⟩ := T.fn.ex
  obtain ⟨cdC, ocC, odC, slC, lC, hcC⟩ := cls_obj (q := true) T.hd
  have hbind : BindsTo ⟨h, g, d, t, os⟩ (ksFn "__init__" q params (initBody txt f p0 p1 p2 p3 p4 p5 p6 p7 p8 p9 j) (initScope f) dV kV doc pm an (.ref cda) ct cc) args [("self", .ref e), (f, u)] := by
    rcases ha with rfl | rfl
    · exact hb1 _ _ _
    · exact hb2 _ _ _
  have kf : List.lookup f [(Str.ofString "self", NameKind.local), (f, .local), (Str.ofString "__class__", .free), (Str.ofString "super", .globalImplicit)] = some .local := by
    simp [List.lookup, n1]
  have XX : K.In (hideAll h [e]) := fun a o z => hideAll_get _ (X a o z) (by
    intro y
    rw [List.mem_singleton.mp y, hKe] at z
    cases z)
  refine ks_codeAny_call_defAt hroom (X _ _ lf) rfl hlim (codeRec_of X hcd) rfl hbind ?_ ?_ (fun h₀ hns k0 => ?_)
  · intro x hx
    simp at hx
    rcases hx with rfl | rfl | rfl | rfl <;> simp
  · intro x hx
    simp at hx
    rcases hx with rfl | rfl
    · rfl
    · exact kf
  have F0 : Fr (hideAll h [e]) h.objs.size h₀ (fun x => [((f : Str), u), (Str.ofString "self", .ref e)].lookup x) := ⟨hns, fun b o z => k0 b o (of_hideAll _ z), Nat.le_of_eq (hideAll_size _ _)⟩
  have N0 : News (hideAll h [e]) h.objs.size h₀ [(e, excObj C t0 none .none)] := fun p hp => by
    rw [List.mem_singleton.mp hp]
    exact ⟨k0 _ _ he, Nat.ne_of_lt (Heap.lt_size he), hideAll_none _ (by simp)⟩
  have hself : (fun x => [((f : Str), u), (Str.ofString "self", Value.ref e)].lookup x) "self" = some (.ref e) := by
    show List.lookup (Str.ofString "self") _ = _
    simp [List.lookup, n3]
  have hfound : (fun x => [((f : Str), u), (Str.ofString "self", Value.ref e)].lookup x) f = some u := by simp [List.lookup]
  have X0 : K.In h₀ := X.keeps k0
  have ksu : (initScope f).names.lookup (Str.ofString "super") = some .globalImplicit := by
    show List.lookup (Str.ofString "super") [_, _, _, _] = _
    simp [List.lookup, n5, show (Str.ofString "super" == Str.ofString "self") = false by decide +kernel, show (Str.ofString "super" == Str.ofString "__class__") = false by decide +kernel]
  have kcl : (initScope f).names.lookup (Str.ofString "__class__") = some .free := by
    show List.lookup (Str.ofString "__class__") [_, _, _, _] = _
    simp [List.lookup, n4, show (Str.ofString "__class__" == Str.ofString "self") = false by decide +kernel]
  have kse : (initScope f).names.lookup (Str.ofString "self") = some .local := by rfl
  show _root_.PySem.wpAt (model P w) (A.deeper (ksEnv q (initScope f) h.objs.size fI (.ref cda) cc)) (.func (initBody txt f p0 p1 p2 p3 p4 p5 p6 p7 p8 p9 j) (ksEnv q (initScope f) h.objs.size fI (.ref cda) cc)) (execs (initBody txt f p0 p1 p2 p3 p4 p5 p6 p7 p8 p9 j) (ksEnv q (initScope f) h.objs.size fI (.ref cda) cc)) _ _ _
  -- super()
  refine ks_wpAt_execs_cons (ks_wpAt_Expr_any ?_)
  refine ks_wpAt_MethodCall (pl := pl (ksEnv q (initScope f) h.objs.size fI (.ref cda) cc)) ?_ (hev _)
  refine ks_wpAt_super_base (f := fI) ksu kcl (by decide) rfl (X0 _ _ lf) rfl hpar rfl (X0 _ _ lcode) rfl hvs (by rw [hP.file]; exact beq_self_eq_true _) hP.top ?_
  refine ks_loadName_global rfl ksu (loadGlobal_builtin (env := ksEnv q (initScope f) h.objs.size fI (.ref cda) cc) (hg.keeps k0) hs (hb.keeps k0) hbs ⟨rfl, ?_⟩)
  refine wpAny_loadName_free rfl kcl rfl ⟨_, X0 _ _ lcell, rfl⟩ ?_
  refine wpAny_loadName_local rfl (by rw [har]; exact kse) hns (by rw [har]; exact hself) ?_
  refine ks_wpAny_isType_cls (X0 _ _ lC) rfl ⟨rfl, ?_⟩
  refine ks_wpAny_call_super (X0 _ _ lC) rfl (k0 _ _ he) rfl (fun c z => by cases z) (looks_mroIn X0 T.sC) (fun h1 e1 k1 => ?_)
  obtain ⟨F1, N1, l1⟩ := ks_newsPush (s := ⟨h₀, g, d, 0, os⟩) (o := ks_superObj C e C) F0 N0 rfl e1 k1
  replace F1 : Fr (hideAll h [e]) h.objs.size h1 _ := F1
  refine kxs_method (odx := none) T.wrap F1 XX N1 (List.mem_cons_self ..) ⟨k1 _ _ (k0 _ _ he), rfl, rfl, trivial⟩ T.opq T.sup T.sB (by decide) (fun q2 h2 F2 N2 l2 => ?_)
  refine kxs_callWith1 N2 (List.mem_cons_self ..) ?_
  refine spliced_cons (Constant_str (k := j) (pos := p3) ?_)
  refine spliced_nil ⟨kxs_at N2 (List.mem_cons_self ..), ?_⟩
  refine kxs_call F2 XX N2 T.base T.ini (List.mem_cons_self ..) (.tail ?u1 (.tail ?u2 (.head ?u3))) (by rw [sizeLine_eq]; exact (by decide : 1 ≤ 16777216)) (fun t3 h3 F3 N3 l3 => ?_)
  case u1 => exact Nat.ne_of_gt (l2 _ (List.mem_cons_of_mem _ (List.mem_cons_self ..)))
  case u2 => exact Nat.ne_of_gt (l1 _ (List.mem_cons_self ..))
  case u3 => intro p hp; cases hp
  -- self.f = f
  refine ks_wpAt_execs_cons (ks_wpAt_Assign_Attr ?_)
  refine wpAt_of_wpAny (wpAny_Name (wpAny_loadName_local rfl kf F3.ns hfound ?_) n2)
  refine wpAny_Name (wpAny_loadName_local rfl kse F3.ns hself ?_)
  refine set_exc0 (es' := [⟨_, .str f _, u⟩]) (n' := 1) T.stor F3 XX N3 (.tail _ (.tail _ (.tail _ (.head _)))) T.sa T.over (by unfold takerIn; rw [T.nf]; rfl) T.hd rfl (.tail ?u1 (.tail ?u2 (.tail ?u3 (.head ?u4)))) (by exact (by decide : 1 ≤ 1000)) (fun dx h4 F4 N4 l4 => ?_)
  case u1 => exact Nat.ne_of_gt (l3 _ (.tail _ (.tail _ (.head _))))
  case u2 => exact Nat.ne_of_gt (l2 _ (List.mem_cons_of_mem _ (List.mem_cons_self ..)))
  case u3 => exact Nat.ne_of_gt (l1 _ (List.mem_cons_self ..))
  case u4 => intro p hp; cases hp
  refine wpAt_of_wpAny (wpAny_execs_nil ?_)
  refine hq h4 t3 dx _ (fun b o hb z => F4.keep b o (hideAll_get _ z (by simpa using hb))) ?_ (N4 _ (List.mem_of_getElem? (i := 4) rfl)).1 (ns1_one (N4 _ (List.mem_cons_self ..)).1)
  exact Nat.le_of_lt (Nat.lt_of_lt_of_le hns.lt (Nat.le_of_lt (l4 _ (List.mem_of_getElem? (i := 2) rfl))))
end

/-! ### such an exception, made for a raise -/
section
open L2
variable {X : Cx} {x f : Str} {e : Expr} {te : TE} {p pos : Pos} {C fI : Addr} {B newId initId : String} {bmB : List Value}
theorem K_new {X : Cx} {pins : List (Addr × Obj)} {σ : L2.St} {H : Hp} {s : Shared} {a : Addr} (I : Inv X pins σ H s) (h : s.heap.objs.size ≤ a) : X.K.lookup a = none := by
  cases z : X.K.lookup a with
  | none => rfl
  | some o => exact absurd (Nat.lt_of_lt_of_le (Heap.lt_size (I.kIn _ _ z)) h) (Nat.lt_irrefl _)
theorem exs_made (hP : PF X.prog) (T : OexS X.K C fI B newId initId bmB f) (hs : X.mg "super" = none) (hr : Room 2 X.A) {pins : List (Addr × Obj)} {σ : L2.St} {H1 : Hp} {s1 : Shared} {u : Value} {v : V} {Q : XK} (I1 : Inv X pins σ H1 s1) (r1 : RelV v u)
    (q : ∀ d, H1 d = none → Q (.ref C) (some d) (upd H1 d (.xd [(f, v)]))) : wpAny (model X.prog X.w) X.A (call (.ref C) [u]) (MkP X pins σ Q) X.xe s1 := by
  obtain ⟨nm, N, qn, bs, bm, hdct, sn, sub, ab, col, dd, k0, k1, k2, k3, k5, hC, hT⟩ := excInit_of I1.kIn T.ini
  obtain ⟨hp, g, dr, tk, os⟩ := s1
  have kk : ∀ b o, hp.get? b = some o → ((hp.push (kdv_tup [u])).push (HandSPX.excO C hp.objs.size)).get? b = some o := fun b o e => Heap.get?_push_of_some _ (Heap.get?_push_of_some _ e)
  have hget : ((hp.push (kdv_tup [u])).push (HandSPX.excO C hp.objs.size)).get? (hp.objs.size + 1) = some (excObj C hp.objs.size none .none) := by heap_get
  have hsz : ((hp.push (kdv_tup [u])).push (HandSPX.excO C hp.objs.size)).objs.size = hp.objs.size + 2 := by rw [Heap.size_push, Heap.size_push]
  obtain ⟨mb, b1, b2⟩ := I1.mod.blt
  have l1 : ([u] : List Value).length ≤ sizeLine := by
    rw [sizeLine_eq]
    exact (by decide : 1 ≤ 16777216)
  refine wpAny_call (HandSPX.call_own T.base hT hC (looks_findIn I1.kIn T.ii) (fun self => bind_fn I1.kIn self T.ti) l1 ?_)
  refine einit_run hP T (I1.kIn.keeps kk) (K_new I1 (Nat.le_succ _)) ((I1.mod.glob.keeps I1.bk).keeps kk) hs ((b1.keeps I1.bk).keeps kk) (b2 "super" (by decide)) (I1.nolimit.keeps kk) (hr.make C [u] []).depth ?_ ?_ hget (.inl rfl) ?_
  · exact fun z => absurd (Heap.Ns.lt (I1.mod.glob.keeps I1.bk)) (by rw [z]; exact Nat.not_lt_of_le (Nat.le_succ _))
  · exact fun z => absurd (Heap.Ns.lt (b1.keeps I1.bk)) (by rw [z]; exact Nat.not_lt_of_le (Nat.le_succ _))
  intro h' t1 dx tk' k hdx hx hns
  rw [hsz] at hdx
  obtain ⟨G, g1, g2⟩ := restrict h' fun b => decide (b ≠ hp.objs.size + 1)
  have ge : G.get? (hp.objs.size + 1) = none := g2 _ (by simp)
  have gk : ∀ b, b ≠ hp.objs.size + 1 → G.get? b = h'.get? b := fun b hb => g1 b (decide_eq_true hb)
  have nold : ∀ {b : Addr} {o : Obj}, hp.get? b = some o → b ≠ hp.objs.size + 1 := fun {b o} z => Nat.ne_of_lt (Nat.lt_succ_of_lt (Heap.lt_size z))
  have hd : dx ≠ hp.objs.size + 1 := Nat.ne_of_gt (Nat.lt_of_lt_of_le (Nat.lt_succ_self _) hdx)
  have na : H1 (hp.objs.size + 1) = none := I1.hok.fresh (Nat.le_succ _)
  have nd : H1 dx = none := I1.hok.fresh (Nat.le_trans (Nat.le_add_right _ 2) hdx)
  refine ⟨rfl, hp.objs.size + 1, _, _, ⟨G, g, dr, tk', os⟩, upd H1 dx (.xd [(f, v)]), .ref C, some dx, rfl, ?_, ?_, ge, hx, ⟨rfl, rfl⟩, rfl, rfl, ?_, rfl, I1.bare, raises_own T.exC T.tyC, q dx nd⟩
  · refine I1.laid (t' := tk') (h' := G) (fun b o z => ?_) (Nat.le_trans (Nat.le_add_right _ 2) hdx) ⟨_, hns.at fun o z => (gk dx hd).trans z, relO_put (fs := []) r1 fun _ => True.intro⟩
    exact (gk b (nold z)).trans (k b o (nold z) (kk b o z))
  · intro b o z
    by_cases hb : b = hp.objs.size + 1
    · rw [hb, ge] at z
      cases z
    · exact (gk b hb).symm.trans z
  · rw [upd_ne hd.symm]
    exact na
/-- raise C(e): the exception has a new dict with its field -/
theorem pmk_exs (hP : PF X.prog) (T : OexS X.K C fI B newId initId bmB f) (hs : X.mg "super" = none) (hr : Room 2 X.A) (hg : Gl X x) (gC : X.mg x = some (.ref C)) (he : PE X e te) (hdb : (x == ("__debug__" : Str)) = false := by decide)
    (hse : starEach [e] X.env = (false, eval e X.env) :: starEach [] X.env := by rfl) : PMk X (.Call (.Name x p) [e] [] pos) (fun σ H Q => te σ H fun v H1 => ∀ d, H1 d = none → Q (.ref C) (some d) (upd H1 d (.xd [(f, v)]))) := by
  intro pins s σ H Q I h
  refine wpAny_Call_Name_kw (ld_glob I hg gC ?_ hdb)
  refine callWith_K (h₀ := X.base) I.ok.mod.kin T.kC ?_ hse (by rfl)
  rw [hse]
  show wpAny _ _ (spliced ((false, eval e X.env) :: backTo pos (starEach [] X.env))) _ _ s
  refine spliced_cons (thn (he.run pins s σ H _ I h) fun u s1 ⟨v, H1, I1, r1, q1⟩ => ?_)
  exact spliced_nil ⟨I1.kIn, exs_made hP T hs hr I1 r1 q1⟩
end

end CH
/-! ### isinstance of a caught exception that has a dict; its fields; several clauses, tuples of classes -/
namespace CH
open PySem PySem.Spec PyProof.Rows PySem.W PySem.Calls
section
variable {prog : Program} {w : World} {A : Around} {E : Value → Shared → Prop} {s : Shared} {K : Frag} {x D : Addr} {ox : Obj} {od : Option Obj}
/-- a data descriptor of the class goes ahead of what the dict has -/
theorem found_data {C : Addr} {nm : Str} {a1 g1 : Value} (c1 : (clsIn K C).isSome = true) (c2 : findIn K (.ref C) nm = some (some a1)) (c3 : specialIn K a1 "__get__" = some (some g1)) (c4 : takesIn K a1 = some true) : findObj K C od nm = some (.bind g1 a1) := by
  rcases Option.isSome_iff_exists.mp c1 with ⟨cd, c1⟩
  show ((clsIn K C).bind _) = _
  rw [c1]
  simp only [Option.bind_some, c2, c3, c4]
theorem exc_class (T : L2.ExcC K D) {Q : Option Value → Shared → Prop} (X : K.In s.heap) (I : PySem.W.InstAt s.heap x ox D od) (q : Q (some (.ref D)) { s with toks := s.toks + 1 }) : wpAny (model prog w) A (getAttr? (.ref x) "__class__") Q E s := by
  have fnd : findObj K D od "__class__" = some (.bind (.builtin "getset_descriptor.__get__") (.builtin "object.__class__")) := found_data (by obtain ⟨c, e, _⟩ := any_some T.hd; rw [e]; rfl) T.ha T.hn T.ht
  obtain ⟨h0, g0, d0, t0, o0⟩ := s
  have ty := I.type (M := model prog w)
  have nx : (Value.builtin "BaseException.__getattribute__" == Value.builtin "object.__getattribute__") = false := by decide +kernel
  have k1 : (onTheHeap (Value.ref D) && Value.builtin "BaseException.__getattribute__" == Value.builtin "object.__getattribute__") = false := by simp only [nx, Bool.and_false]
  unfold getAttr? getAttrBy? getAttrBy
  refine wpAny_bind (wpAny_mkText (wpAny_bind (wpAny_attempt (wpAny_holding (wpAny_bind (ty.at (wpAny_bind ((looks_findIn (M := model prog w) X T.hg).at ?_))))))))
  show wpAny _ _ (if (onTheHeap (Value.ref D) && Value.builtin "BaseException.__getattribute__" == Value.builtin "object.__getattribute__") = true then _ else _) _ _ _
  rw [k1]
  rw [if_neg Bool.false_ne_true]
  unfold getAttrByItsOwn hookBefore
  refine wpAny_bind ?_
  rw [if_pos (show onTheHeap (Value.ref D) = true from rfl)]
  refine (looks_findIn (M := model prog w) X T.hk).at (wpAny_bind (wpAny_attempt (wpAny_holding ?_)))
  unfold callGetattribute
  have k0 : (false && onTheHeap (Value.builtin "BaseException.__getattribute__")) = false := Bool.false_and ..
  rw [k0]
  rw [if_neg Bool.false_ne_true]
  unfold boundAndCalled
  rw [PySem.F.excAttr_ValueError.ga.bind (.ref x)]
  refine wpAny_bind (wpAny_pure ?_)
  show wpAny _ _ (call (.builtin "BaseException.__getattribute__") [.ref x, .str "__class__" t0]) _ _ _
  refine wpAny_call (codeAny_call_builtin PySem.F.excAttr_ValueError.ga.plain PySem.F.entry_bexc_ga ?_)
  refine @check_slot (model prog w) _ _ ⟨h0, g0, d0, t0 + 1, o0⟩ "BaseException.__getattribute__" "BaseException" "__getattribute__" (.ref x) [.str "__class__" t0] [] _ (by decide +kernel) (by decide +kernel) (ty.andThen (looks_subIn X T.hs)) (PySem.F.args_bexc_ga (.ref x) (.str "__class__" t0)) ?_
  unfold Builtin.«object.__getattribute__»
  refine wpAny_bind (wpAny_of_eq (a := ((Value.ref x : Value), [Value.str "__class__" t0])) (by first | rfl | (simp only [slotArgs]; rfl)) ?_)
  refine wpAny_bind (wpAny_pure (wpAny_bind (ty.at (wpAny_bind ((looks_find (M := model prog w) X I fnd).at ?_)))))
  show wpAny _ _ (holding [Value.builtin "object.__class__"] (call (.builtin "getset_descriptor.__get__") [.builtin "object.__class__", .ref x, .ref D]) >>= ret) _ _ _
  refine wpAny_bind (wpAny_holding (wpAny_call (class_get (s := ⟨h0, g0, d0, t0 + 1, o0⟩) (ox := ox) (od := od) X I T.hm (wpAny_pure ?_))))
  show wpAny _ _ (handedOut (.ref D)) _ _ _
  rw [handedOut_of (v := .ref D) rfl]
  first
    | exact wpAny_pure (wpAny_pure q)
    | exact wpAny_pure q
    | exact wpAny_pure (wpAny_bind (wpAny_pure (wpAny_pure q)))
theorem exc_kitx (T : L2.ExcC K D) : KitX K (.ref x) (.ref D) (fun h => PySem.W.InstAt h x ox D od) := by
  obtain ⟨cd, hc, _⟩ := any_some T.hd
  unfold clsIn at hc
  split at hc
  · rename_i c1 d1 cd1 sl1 ho
    refine ⟨fun _ _ _ I => I.type, fun _ _ X _ => ?_, fun h tp dd its n sl X htp => ?_, fun X I k => exc_class T X I k⟩
    · intro A1 Q1 E1 s1 k1 q1
      unfold isType loadHead
      exact wpAny_bind (wpAny_loadPart (k1 _ _ (X _ _ ho)) (wpAny_pure q1))
    · refine Bool.eq_false_iff.mpr fun q => ?_
      obtain rfl : D = tp := Value.ref.inj (beq_iff_eq.mp q)
      have z := (X _ _ ho).symm.trans htp
      cases z
  · cases hc
end
end CH
namespace CH
open PySem PySem.Spec PyProof.Rows PySem.W PySem.Calls L2
/-- isinstance(e, C) in an except suite: a the exception, cls its class, d its dict -/
def rIsX (K : Frag) (a : Addr) (cls : Value) (d : Option Addr) : List V → Hp → VK → Prop := fun xs H Q =>
  ∃ (D dd : Addr) (fs : List (Str × V)) (c : V) (cv : Value) (b : Bool), xs = [.ref a, c] ∧ cls = .ref D ∧ d = some dd ∧ H dd = some (.xd fs) ∧ ExcC K D ∧ ClsV c cv ∧ kitOne K (.ref D) cv = some b ∧ Q (.bl b) H
theorem inst_caught {X : Cx} {a D dd : Addr} {oe : Obj} {pn pins : List (Addr × Obj)} {σ : L2.St} {H : Hp} {s : Shared} {fs : List (Str × V)} (I : Inv (X.suite a ((a, oe) :: pn)) pins σ H s) (hz : Zc (.ref D) (some dd) oe) (hf : ∃ vs, oe.data = .fields vs) (e : H dd = some (.xd fs)) : ∃ od, PySem.W.InstAt s.heap a oe D (some od) := by
  obtain ⟨ha, _⟩ := I.pin (a, oe) (List.mem_append_left _ List.mem_cons_self)
  obtain ⟨vs, hd⟩ := hf
  have hx : ObjOk X.prog X.w H s.heap dd (.xd fs) := I.hok dd _ e
  obtain ⟨mA, hns, hr⟩ := hx
  obtain ⟨od, ho, hl⟩ := lookIn_ns hns
  refine ⟨od, ha, hz.1, ?_, ?_⟩
  · unfold PySem.W.notCls
    rw [hd]
  · rw [hz.2]
    exact ho
theorem call_isX {X : Cx} {a : Addr} {oe : Obj} {cls : Value} {d : Option Addr} {pn : List (Addr × Obj)} (hz : Zc cls d oe) (hf : ∃ vs, oe.data = .fields vs) {K : Frag} (hK : X.K = K) : CallR (X.suite a ((a, oe) :: pn)) (.builtin "isinstance") (rIsX K a cls d) := by
  subst hK
  intro pins s σ H xs us Q I r h
  obtain ⟨D, dd, fs, c, cv, b, rfl, rfl, rfl, hd, T, hc, hk, q⟩ := h
  obtain ⟨od, J⟩ := inst_caught I hz hf hd
  rcases r with _ | ⟨rx, _ | ⟨rt, _ | _⟩⟩
  obtain rfl := hc.eq rt
  cases rx
  exact PySem.W.kia_one (exc_kitx T) I.kIn J hk (fun z => nomatch z) fun tk => ⟨.bl b, H, I.kept (t' := tk) fun _ _ z => z, rfl, q⟩
/-- e.f in an except suite -/
def tXg (K : Frag) (a : Addr) (cls : Value) (d : Option Addr) (f : Str) (te : TE) : TE := fun σ H Q => te σ H fun x H1 =>
  ∃ (D dd : Addr) (fs : List (Str × V)) (v : V), x = .ref a ∧ cls = .ref D ∧ d = some dd ∧ XfC K D ∧ findIn K (.ref D) f = some none ∧ H1 dd = some (.xd fs) ∧ fs.lookup f = some v ∧ Q v H1
theorem pe_xg {X : Cx} {a : Addr} {oe : Obj} {cls : Value} {d : Option Addr} {pn : List (Addr × Obj)} {e : Expr} {te : TE} {pos : Pos} {n : Str} {K : Frag} (hK : X.K = K) (hz : Zc cls d oe) (hf : ∃ vs, oe.data = .fields vs) (he : PE (X.suite a ((a, oe) :: pn)) e te) (hb : attributeBase e n X.env (eval e X.env) = eval e X.env := by rfl) :
    PE (X.suite a ((a, oe) :: pn)) (.Attribute e n pos) (tXg K a cls d n te) := by
  subst hK
  refine ⟨fun pins s σ H Q I h => attr_of hb (thn (he.run pins s σ H _ I h) fun u s1 hh => ?_)⟩
  obtain ⟨x, H1, I1, rx, D, dd, fs, v, rfl, rfl, rfl, T, hno, ea, l, q⟩ := hh
  obtain rfl : u = Value.ref a := rx
  obtain ⟨ha, _⟩ := I1.pin (a, oe) (List.mem_append_left _ List.mem_cons_self)
  obtain ⟨vs, hd⟩ := hf
  have hx : ObjOk X.prog X.w H1 s1.heap dd (.xd fs) := I1.hok dd _ ea
  obtain ⟨mA, hns, hr⟩ := hx
  obtain ⟨od, ho, hl⟩ := lookIn_ns hns
  obtain ⟨u, hu, ru⟩ := RelO.some_of (v := v) (o := mA n) (l ▸ hr n)
  have J : PySem.W.InstAt s1.heap a oe D (some od) := ⟨ha, hz.1, by unfold PySem.W.notCls; rw [hd], by rw [hz.2]; exact ho⟩
  exact HandSPX.exc_get I1.kIn J T.ga T.gg T.exC (PySem.W.findObj_own T.hdC hno rfl (by rw [hl, hu])) (handed_of ru) ⟨v, H1, I1.tok _, ru, q⟩
/-! ### the classes that a clause names -/
inductive TK (X : Cx) : Expr → (Value → Option Bool) → Prop
  | one {x1 : Str} {c1 : Value} {p1 : Pos} : Names X x1 c1 → TK X (.Name x1 p1) (fun cls => exmOne X.K cls c1)
  | two {x1 x2 : Str} {c1 c2 : Value} {p1 p2 tp : Pos} {kk : Nat} : Names X x1 c1 → Names X x2 c2 → TK X (.Tuple [.Name x1 p1, .Name x2 p2] kk tp) (fun cls => exmAny X.K cls [c1, c2])
  | three {x1 x2 x3 : Str} {c1 c2 c3 : Value} {p1 p2 p3 tp : Pos} {kk : Nat} : Names X x1 c1 → Names X x2 c2 → Names X x3 c3 → TK X (.Tuple [.Name x1 p1, .Name x2 p2, .Name x3 p3] kk tp) (fun cls => exmAny X.K cls [c1, c2, c3])
  | four {x1 x2 x3 x4 : Str} {c1 c2 c3 c4 : Value} {p1 p2 p3 p4 tp : Pos} {kk : Nat} : Names X x1 c1 → Names X x2 c2 → Names X x3 c3 → Names X x4 c4 → TK X (.Tuple [.Name x1 p1, .Name x2 p2, .Name x3 p3, .Name x4 p4] kk tp) (fun cls => exmAny X.K cls [c1, c2, c3, c4])
section
variable {X : Cx} {a : Addr} {oe : Obj} {pn : List (Addr × Obj)} {σ : L2.St} {H : Hp} {s : Shared} {E : Value → Shared → Prop}
theorem nm_eval {x : Str} {c : Value} {np : Pos} {Q : Value → Shared → Prop} (hc : Names X x c) (S : Inv (X.suite a ((a, oe) :: pn)) [] σ H s) (q : Q c s) : wpAny (model X.prog X.w) (X.A.mark (some (.ref a))) (eval (.Name x np) X.env) Q E s := by
  rcases hc with ⟨g1, g2, g3 | ⟨g3, g4, g5⟩⟩
  · exact ld_glob (X := X.suite a ((a, oe) :: pn)) S g1 g3 q g2
  · exact ld_blt (X := X.suite a ((a, oe) :: pn)) S g1 g3 g4 q g5 g2
theorem tk_run {te : Expr} {f : Value → Option Bool} {cls : Value} {b : Bool} {Q : Bool → Shared → Prop} (T : TK X te f) (S : Inv (X.suite a ((a, oe) :: pn)) [] σ H s) (ha : s.heap.get? a = some oe) (hc : oe.cls = cls) (hb : f cls = some b)
    (q : ∀ h', (∀ r o, s.heap.get? r = some o → h'.get? r = some o) → Q b { s with heap := h' }) :
    wpAny (model X.prog X.w) (X.A.mark (some (.ref a))) (eval te X.env) (fun c s₁ => wpAny (model X.prog X.w) (X.A.mark (some (.ref a))) (excMatches (.ref a) c) Q E s₁) E s := by
  have LT : Looks (model X.prog X.w) s.heap (typeOf (.ref a)) cls := fun A Q E s k q => wpAny_typeOf_ref (k _ _ ha) (hc ▸ q)
  have kp : ∀ {l : List Value} q o, s.heap.get? q = some o → (s.heap.push { cls := .type "tuple", data := .seq l.toArray }).get? q = some o := fun _ _ z => Heap.get?_push_of_some _ z
  cases T with
  | one n1 => exact nm_eval n1 S ((exm_one (M := model X.prog X.w) S.kIn LT hb).here (q s.heap fun _ _ z => z))
  | two n1 n2 => exact wpAny_Tuple (wpAny_items_cons (nm_eval n1 S (wpAny_items_cons (nm_eval n2 S (wpAny_items_nil ⟨by size_fits, (exm_tup2 (S.kIn.keeps kp) (LT.keeps kp) (Heap.get?_push_size s.heap rfl) hb).here (q _ kp)⟩)))))
  | three n1 n2 n3 => exact wpAny_Tuple (wpAny_items_cons (nm_eval n1 S (wpAny_items_cons (nm_eval n2 S (wpAny_items_cons (nm_eval n3 S (wpAny_items_nil ⟨by size_fits, (exm_tup3 (S.kIn.keeps kp) (LT.keeps kp) (Heap.get?_push_size s.heap rfl) hb).here (q _ kp)⟩)))))))
  | four n1 n2 n3 n4 => exact wpAny_Tuple (wpAny_items_cons (nm_eval n1 S (wpAny_items_cons (nm_eval n2 S (wpAny_items_cons (nm_eval n3 S (wpAny_items_cons (nm_eval n4 S (wpAny_items_nil ⟨by size_fits, (exm_tup4 (S.kIn.keeps kp) (LT.keeps kp) (Heap.get?_push_size s.heap rfl) hb).here (q _ kp)⟩)))))))))
end
theorem fly_on {B h h' : Heap} {l : List Env} {e : Addr} {Z : Obj → Prop} (R : HandSPX.FlyingZ B l e Z h) (k : ∀ b o, h.get? b = some o → h'.get? b = some o) : HandSPX.FlyingZ B l e Z h' := by
  rcases R with ⟨g1, g2, g3, o1, vs, T, oT, ts, q1, q2, q3, q4, q5, q6, q7, q8, q9⟩
  exact ⟨fun b o q => k b o (g1 b o q), g2, g3.of_keeps fun b o q _ => ⟨o, k b o q, rfl⟩, o1, vs, T, oT, ts, k _ _ q1, q2, q3, q4, q5, q6, k _ _ q7, q8, q9⟩
/-! ### try: body, except ..: suite, .. -/
abbrev Clause := (Value → Option Bool) × Option Nat × (Addr → Value → Option Addr → TS)
/-- behind a suite with a name the name is gone -/
def goneE (i : Nat) (D : Ends) : Ends := { nx := fun σ' H' => D.nx (σ'.set i none) H', rt := D.rt, bk := fun σ' H' => D.bk (σ'.set i none) H', ct := fun σ' H' => D.ct (σ'.set i none) H' }
def wTry (Wout : WX) (D : Ends) : List Clause → WX
  | [] => Wout
  | (f, none, ts) :: r => fun cls d σ H => ∃ b, f cls = some b ∧ if b = true then ∀ a, H a = none → ts a cls d D σ H else wTry Wout D r cls d σ H
  | (f, some i, ts) :: r => fun cls d σ H => ∃ b, f cls = some b ∧ if b = true then ∀ a, H a = none → ts a cls d (goneE i D) (σ.set i (some (.ref a))) H else wTry Wout D r cls d σ H
inductive ClsOk (X : Cx) : List ExceptHandler → List Clause → Prop
  | nil : ClsOk X [] []
  | plain {te : Expr} {f : Value → Option Bool} {ts : Addr → Value → Option Addr → TS} {b₀ : Stmt} {su : List Stmt} {pos : Pos} {hds : List ExceptHandler} {l : List Clause} (ht : TK X te f)
      (hsu : ∀ (a : Addr) (oe : Obj) (cls : Value) (d : Option Addr) (pn : List (Addr × Obj)), Zc cls d oe → (∃ vs, oe.data = .fields vs) → PSs (X.suite a ((a, oe) :: pn)) (b₀ :: su) (ts a cls d)) (r : ClsOk X hds l) :
      ClsOk X (.ExceptHandler (some te) none (b₀ :: su) pos :: hds) ((f, none, ts) :: l)
  | named {te : Expr} {f : Value → Option Bool} {n : Str} {i : Nat} {ts : Addr → Value → Option Addr → TS} {b₀ : Stmt} {su : List Stmt} {pos : Pos} {hds : List ExceptHandler} {l : List Clause} (ht : TK X te f) (hi : X.N[i]? = some n) (hln : X.env.kindOf n = some .local)
      (hsu : ∀ (a : Addr) (oe : Obj) (cls : Value) (d : Option Addr) (pn : List (Addr × Obj)), Zc cls d oe → (∃ vs, oe.data = .fields vs) → PSs (X.suite a ((a, oe) :: pn)) (b₀ :: su) (ts a cls d)) (r : ClsOk X hds l) :
      ClsOk X (.ExceptHandler (some te) (some n) (b₀ :: su) pos :: hds) ((f, some i, ts) :: l)
section
variable {X : Cx} {pins : List (Addr × Obj)} {σ : L2.St} {H : Hp} {D : Ends} {sI s' : Shared} {a : Addr} {B : Heap} {cls : Value} {d : Option Addr} {Wout : WX}
/-- the exception stands noted at the frame: the clauses, one behind the other -/
theorem clauses_run {hds : List ExceptHandler} {l : List Clause} (hk : ClsOk X hds l) : ∀ {h3 : Heap}, (ok : X.Ok) → X.A.frames = some (X.env :: X.outer) → X.stack = X.env :: X.outer → X.env.frame = some X.env.locals → X.N.Nodup → Takes X Wout → Inv X pins σ H sI → (∀ b o, sI.heap.get? b = some o → b ∉ frs X.stack → B.get? b = some o) → sI.heap.UpToSlots h3 → HandSPX.FlyingZ B (X.env :: X.outer) a (Zc cls d) h3 →
    H a = none → s'.os = sI.os → AllBare s'.gens → wTry Wout D l cls d σ H → wpAny (model X.prog X.w) X.A (handleBy (.ref a) X.env hds) (SP X pins D) X.xe { s' with heap := h3 } := by
  induction hk with
  | nil =>
    intro h3 ok hfr hs hf hN tk J nb up fl na os ag w
    refine wpAny_handleBy_nil ?_
    obtain ⟨_, _, _, oe, vs, T, oT, ts', he, hz, hd, h1, _⟩ := id fl
    unfold PySem.passOn
    refine wpAny_bind (wpAny_field he hd h1 ?_)
    rw [if_neg (show ¬ ((Value.ref T == Value.none) = true) from by simp)]
    have out : wpAny (model X.prog X.w) X.A (setFlight (.ref a) X.env.frame) (fun _ s4 => wpAny (model X.prog X.w) X.A (throw (.ref a) : Sem Flow) (SP X pins D) X.xe s4) X.xe { s' with heap := h3 } := by
      rw [hf]
      exact HandSPX.setFlight_upZ fl fun h4 hh4 up4 => wpAny_throw (tk _ _ ⟨a, B, sI, pins, σ, H, cls, d, rfl, J, nb, up.trans up4, .inr (.inr (hs ▸ hh4)), na, os, ag, w⟩)
    first
      | exact wpAny_bind (wpAny_pure (wpAny_bind out))
      | exact wpAny_bind out
  | @plain te f ts b₀ su pos hds l ht hsu r ih =>
    intro h3 ok hfr hs hf hN tk J nb up fl na os ag w
    obtain ⟨b, hb, w⟩ := w
    have J3 : Inv X pins σ H { s' with heap := h3 } := J.landed nb fl.1 up os ag
    obtain ⟨oe3, vs3, he3, hz3, hd3⟩ := fl.there
    have nfr : ∀ {h : Heap} {o : Obj} {vs : Array Value}, h.FunFrames B (X.env :: X.outer) → h.get? a = some o → o.data = .fields vs → a ∉ frs (X.env :: X.outer) := fun {h o vs} ff e dd hm => by
      obtain ⟨_, o2, e2, z⟩ := ff.mem hm
      cases e.symm.trans e2
      exact z _ dd
    have n1 := nfr fl.2.2.1 he3 hd3
    have nL : a ≠ X.env.locals := fun z => n1 (List.mem_filterMap.mpr ⟨X.env, List.mem_cons_self, by rw [hf, z]⟩)
    have nF : a ∉ X.fs := fun hm => by
      obtain ⟨e, he, q⟩ := List.mem_filterMap.mp hm
      exact n1 (List.mem_filterMap.mpr ⟨e, List.mem_cons_of_mem _ he, q⟩)
    refine wpAny_handleBy_cons (codeAny_handlers_test ?_) (by intro q; cases q)
    refine tk_run ht (J3.suite he3 hd3 na nL nF) he3 hz3.1 hb fun h5 k5 => ?_
    have fl5 := fly_on fl k5
    have up5 : sI.heap.UpToSlots h5 := up.trans (Heap.UpToSlots.of_keeps k5)
    cases b with
    | false => exact ih ok hfr hs hf hN tk J nb up5 fl5 na os ag w
    | true =>
      refine codeAny_handlers_suite (HandSPX.lands_againZ fl5 fun h4 fl4 up4 => ?_)
      obtain ⟨oe4, vs4, he4, hz4, hd4⟩ := fl4.there
      have S4 := (show Inv X pins σ H { s' with heap := h4 } from J.landed nb fl4.1 (up5.trans up4) os ag).suite he4 hd4 na nL nF
      refine wpAny_mono ((hsu a oe4 cls d (X.pn ++ pins) hz4 ⟨_, hd4⟩).run [] _ _ H _ S4 (w a na)) (fun fw s6 hsp => ?_) (fun _ _ z => False.elim z)
      cases fw with
      | next => exact let ⟨_, _, S6, q6⟩ := hsp; ⟨_, _, S6.unsuite ok, q6⟩
      | brk => exact let ⟨_, _, S6, q6⟩ := hsp; ⟨_, _, S6.unsuite ok, q6⟩
      | cont => exact let ⟨_, _, S6, q6⟩ := hsp; ⟨_, _, S6.unsuite ok, q6⟩
      | ret u => exact let ⟨_, _, _, S6, r6, q6⟩ := hsp; ⟨_, _, _, S6.unsuite ok, r6, q6⟩
  | @named te f n i ts b₀ su pos hds l ht hi hln hsu r ih =>
    intro h3 ok hfr hs hf hN tk J nb up fl na os ag w
    obtain ⟨b, hb, w⟩ := w
    have J3 : Inv X pins σ H { s' with heap := h3 } := J.landed nb fl.1 up os ag
    obtain ⟨oe3, vs3, he3, hz3, hd3⟩ := fl.there
    have nfr : ∀ {h : Heap} {o : Obj} {vs : Array Value}, h.FunFrames B (X.env :: X.outer) → h.get? a = some o → o.data = .fields vs → a ∉ frs (X.env :: X.outer) := fun {h o vs} ff e dd hm => by
      obtain ⟨_, o2, e2, z⟩ := ff.mem hm
      cases e.symm.trans e2
      exact z _ dd
    have n1 := nfr fl.2.2.1 he3 hd3
    have nL : a ≠ X.env.locals := fun z => n1 (List.mem_filterMap.mpr ⟨X.env, List.mem_cons_self, by rw [hf, z]⟩)
    have nF : a ∉ X.fs := fun hm => by
      obtain ⟨e, he, q⟩ := List.mem_filterMap.mp hm
      exact n1 (List.mem_filterMap.mpr ⟨e, List.mem_cons_of_mem _ he, q⟩)
    refine wpAny_handleBy_cons (codeAny_handlers_test ?_) (by intro q; cases q)
    refine tk_run ht (J3.suite he3 hd3 na nL nF) he3 hz3.1 hb fun h5 k5 => ?_
    have fl5 := fly_on fl k5
    have up5 : sI.heap.UpToSlots h5 := up.trans (Heap.UpToSlots.of_keeps k5)
    cases b with
    | false => exact ih ok hfr hs hf hN tk J nb up5 fl5 na os ag w
    | true =>
      refine codeAny_handlers_suite_as (HandSPX.lands_againZ fl5 fun h4 fl4 up4 => ?_)
      obtain ⟨oe4, vs4, he4, hz4, hd4⟩ := fl4.there
      have S4 := (show Inv X pins σ H { s' with heap := h4 } from J.landed nb fl4.1 (up5.trans up4) os ag).suite he4 hd4 na nL nF
      refine store_ok (X := X.suite a ((a, oe4) :: (X.pn ++ pins))) (v := .ref a) S4 hN hi (.inl hln) rfl (fun s5 S5 => ?_) (.inr hln)
      refine wpAny_mono ((hsu a oe4 cls d (X.pn ++ pins) hz4 ⟨_, hd4⟩).run [] s5 _ H _ S5 (w a na)) (fun fw s6 hsp => ?_) (fun _ _ z => False.elim z)
      have end_ : ∀ {σ6 : L2.St} {H6 : Hp} {Q : Shared → Prop}, Inv (X.suite a ((a, oe4) :: (X.pn ++ pins))) [] σ6 H6 s6 → (∀ s7, Inv X pins (σ6.set i none) H6 s7 → Q s7) →
          wpAny (model X.prog X.w) X.A (do bindName X.env n .none; unbindBehindTheSuite X.env n pos) (fun _ s7 => Q s7) X.xe s6 := fun {σ6 H6 Q} S6 hq => gone_ok (S6.unsuite ok) hN hi hln hq
      cases fw with
      | next => exact let ⟨_, _, S6, q6⟩ := hsp; end_ S6 fun s7 J7 => ⟨_, _, J7, q6⟩
      | brk => exact let ⟨_, _, S6, q6⟩ := hsp; end_ S6 fun s7 J7 => ⟨_, _, J7, q6⟩
      | cont => exact let ⟨_, _, S6, q6⟩ := hsp; end_ S6 fun s7 J7 => ⟨_, _, J7, q6⟩
      | ret u => exact let ⟨_, _, _, S6, r6, q6⟩ := hsp; end_ S6 fun s7 J7 => ⟨_, _, _, J7, r6, q6⟩
theorem ps_try_g {body : List Stmt} {h₀ : ExceptHandler} {hds : List ExceptHandler} {l : List Clause} {pos : Pos} {tb : WX → TS} (hs : X.stack = X.env :: X.outer) (hf : X.env.frame = some X.env.locals) (hN : X.N.Nodup) (tk : Takes X Wout)
    (hb : ∀ (W : WX) (pn : List (Addr × Obj)) (xe : Value → Shared → Prop), Takes (X.tr pn xe) W → PassesOwn (model X.prog X.w) X.A X.env xe → PSs (X.tr pn xe) body (tb W))
    (hh : ClsOk X (h₀ :: hds) l) : PS X (.Try body (h₀ :: hds) [] [] pos) (fun D σ H => tb (wTry Wout D l) D σ H) := by
  refine ⟨fun pins s σ H D I h => ?_⟩
  have ok := I.ok
  have hfr : X.A.frames = some (X.env :: X.outer) := hs ▸ ok.frames
  refine wpAny_Try_except (wpAny_mono ((hb (wTry Wout D l) (X.pn ++ pins) (fun e s₁ => wpAny (model X.prog X.w) X.A (noteFrame e X.env) (fun _ s₂ => wpAny (model X.prog X.w) X.A (setFlight e none) (fun _ s₃ =>
    wpAny (model X.prog X.w) X.A (handleBy e X.env (h₀ :: hds)) (SP X pins D) X.xe s₃) X.xe s₂) X.xe s₁) (fun u s1 xx => ?_) PassesOwn.looking).run [] s σ H D (I.toTry _) h) (fun fw s1 hsp => ?_) (fun e s1 he => he))
  · obtain ⟨a, B, sI, pins', σ', H', cls, d, rfl, J', nb, up, sky, na, os, ag, w⟩ := xx
    show wpAny (model X.prog X.w) X.A (noteFrame (.ref a) X.env) _ _ _
    refine Sky.land Zc.steady hfr hf (show Sky B (X.env :: X.outer) a (Zc cls d) X.env.locals s1.heap from hs ▸ sky) fun h3 fl3 up3 => ?_
    exact clauses_run hh ok hfr hs hf hN tk (J'.ofTry ok) nb (up.trans up3) fl3 na os ag w
  · cases fw with
    | next => exact let ⟨_, _, J', q⟩ := hsp; wpAny_execs_nil ⟨_, _, J'.ofTry ok, q⟩
    | brk => exact let ⟨_, _, J', q⟩ := hsp; ⟨_, _, J'.ofTry ok, q⟩
    | cont => exact let ⟨_, _, J', q⟩ := hsp; ⟨_, _, J'.ofTry ok, q⟩
    | ret u => exact let ⟨_, _, _, J', r, q⟩ := hsp; ⟨_, _, _, J'.ofTry ok, r, q⟩
end
end CH

/-! ### calls that may raise, at the caller's slots; len, == of own objects; == and != by items that are one -/
namespace CH
open PySem PySem.Spec PyProof.Rows PySem.W PySem.Calls L2
def tMethE (C : Addr) (m : Str) (sp : Sp) (dvs : List V) (E : L2.St → XK) (ta : TE) (t : TA) : TE := fun σ H Q => ta σ H fun x H1 => ∃ a dx fs, x = .ref a ∧ H1 a = some (.ins C dx fs) ∧ fs.lookup m = none ∧ t σ H1 fun vs H2 => sp (x :: (vs ++ dvs)) H2 Q (E σ)
def tMakeE (C : Addr) (sp : Sp) (dvs : List V) (E : L2.St → XK) (t : TA) : TE := fun σ H Q => t σ H fun vs H1 => ∀ x dx, H1 x = none → H1 dx = none → dx ≠ x → sp (.ref x :: (vs ++ dvs)) (upd (upd H1 dx (.own x)) x (.ins C dx [])) (fun v H2 => v = .non ∧ Q (.ref x) H2) (E σ)
section
variable {X : Cx} {CX : CXT} {k : Nat} {f C : Addr} {fd : FuncData} {ps : List Str} {sp : Sp} {dvs : List V} {ds : List Value} {E : L2.St → XK} {x m : Str} {p pos apos : Pos} {e o : Expr} {es : List Expr} {ta : TE} {t : TA}
theorem pe_methE {pl : Sem Bool} (he : PE X o ta) (c : Cls X.K C) (hm : Meth X.K C m f) (F : FnOk X.prog X.w X.K X.mg X.base CX k f fd ps sp) (hr : Room k X.A) (hb : Binds X.K fd ps ds) (hd : Vals dvs ds) (hx : ∀ σ, PassesAt CX X σ (E σ)) (ha : PA X (e :: es) t)
    (hst : starEach (e :: es) X.env = (false, eval e X.env) :: starEach es X.env := by rfl) (hpl : (backTo pos (starEach es X.env)).any (·.1) = false := by rfl)
    (ht : eval (.Call (.Attribute o m apos) (e :: es) [] pos) X.env = (eval o X.env >>= fun ov => standAt apos.atName >>= fun _ => holding [ov] (getMethod ov m pl) >>= fun r => callWith pos r.1 r.2 (backTo pos (starEach (e :: es) X.env)) (backToKw pos (keywordEach [] X.env))) := by rfl) :
    PE X (.Call (.Attribute o m apos) (e :: es) [] pos) (tMethE C m sp dvs E ta t) := by
  refine ⟨fun pins s σ H Q I h => PySem.W.methodCall_KW (pl := pl) (thn (he.run pins s σ H _ I h) fun u s1 hh => ?_) ht⟩
  obtain ⟨_, H1, I1, rx, a, dx, fs, rfl, ea, l, q⟩ := hh
  obtain rfl : u = Value.ref a := rx
  refine getmeth_ok I1 ea c hm l (PySem.W.callWith_K (first := [.ref a]) (h₀ := X.base) I.ok.mod.kin hm.kp (thn (ha.run pos pins s1 σ H1 _ I1 q) fun us s2 hh => ?_) hst hpl)
  obtain ⟨vs, H2, I2, r, q2⟩ := hh
  exact ⟨I2.kIn, run_fnSD (us := .ref a :: us) (vs := .ref a :: vs) F hr hb hd (hx σ) I2 (.cons rfl r) q2⟩
theorem pe_methE0 {pl : Sem Bool} (he : PE X o ta) (c : Cls X.K C) (hm : Meth X.K C m f) (F : FnOk X.prog X.w X.K X.mg X.base CX k f fd ps sp) (hr : Room k X.A) (hb : Binds X.K fd ps ds) (hd : Vals dvs ds) (hx : ∀ σ, PassesAt CX X σ (E σ))
    (ht : eval (.Call (.Attribute o m apos) [] [] pos) X.env = (eval o X.env >>= fun ov => standAt apos.atName >>= fun _ => holding [ov] (getMethod ov m pl) >>= fun r => callWith pos r.1 r.2 (backTo pos (starEach [] X.env)) (backToKw pos (keywordEach [] X.env))) := by rfl) :
    PE X (.Call (.Attribute o m apos) [] [] pos) (tMethE C m sp dvs E ta tNil) := by
  refine ⟨fun pins s σ H Q I h => PySem.W.methodCall_KW (pl := pl) (thn (he.run pins s σ H _ I h) fun u s1 hh => ?_) ht⟩
  obtain ⟨_, H1, I1, rx, a, dx, fs, rfl, ea, l, q⟩ := hh
  obtain rfl : u = Value.ref a := rx
  exact getmeth_ok I1 ea c hm l (PySem.W.callWith_K0 (first := [.ref a]) I1.kIn hm.kp (run_fnSD (us := [.ref a]) (vs := [.ref a]) F hr hb hd (hx σ) I1 (.cons rfl .nil) q))
theorem pe_call0E (F : FnOk X.prog X.w X.K X.mg X.base CX k f fd ps sp) (hr : Room k X.A) (hg : Gl X x) (hm : X.mg x = some (.ref f)) (hk : PySem.W.keepIn X.K (.ref f) = true) (hb : Binds X.K fd ps ds) (hd : Vals dvs ds) (hx : ∀ σ, PassesAt CX X σ (E σ))
    (hdb : (x == ("__debug__" : Str)) = false := by decide) : PE X (.Call (.Name x p) [] [] pos) (tCallSD sp dvs E tNil) :=
  ⟨fun _ _ σ _ _ I h => wpAny_Call_Name_kw (ld_glob I hg hm (PySem.W.callWith_K0 I.kIn hk (run_fnSD (us := []) F hr hb hd (hx σ) I .nil h)) hdb)⟩
theorem run_makeE {pins : List (Addr × Obj)} {σ : L2.St} {H : Hp} {s : Shared} {Q : VK} {us : List Value} {vs : List V} {E : XK} (M : Mk X.K C f) (F : FnOk X.prog X.w X.K X.mg X.base CX k f fd ps sp) (hr : Room (k + 1) X.A) (hb : Binds X.K fd ps ds) (hd : Vals dvs ds)
    (hx : ∀ (H1 : Hp) (s1 : Shared) (e : Value) (s' : Shared), Inv X pins σ H1 s1 → CX X.stack H1 s1 E e s' → X.xe e s') (I : Inv X pins σ H s) (r : Vals vs us)
    (h : ∀ x dx, H x = none → H dx = none → dx ≠ x → sp (.ref x :: (vs ++ dvs)) (upd (upd H dx (.own x)) x (.ins C dx [])) (fun v H2 => v = .non ∧ Q (.ref x) H2) E) :
    wpAny (model X.prog X.w) X.A (call (.ref C) us) (EP X pins σ Q) X.xe s := by
  have q := h (s.heap.objs.size + 1) s.heap.objs.size (I.hok.fresh (Nat.le_succ _)) (I.hok.fresh (Nat.le_refl _)) (Nat.ne_of_lt (Nat.lt_succ_self _))
  have I2 := Inv.made (C := C) I
  have r2 : Vals (V.ref (s.heap.objs.size + 1) :: (vs ++ dvs)) (Value.ref (s.heap.objs.size + 1) :: (us ++ ds)) := .cons rfl (r.append hd)
  have hl : (Value.ref (s.heap.objs.size + 1) :: us ++ ds).length = ps.length := by
    have z := r2.length
    rw [show Value.ref (s.heap.objs.size + 1) :: us ++ ds = Value.ref (s.heap.objs.size + 1) :: (us ++ ds) from rfl, ← z]
    exact F.len _ _ _ _ q
  refine wpAny_call (make_map (f := f) I.kIn M.makes M.init (beq_iff_eq.mp M.fn) (codeAny_mono (F.run _ X.stack _ _ ⟨Value.ref (s.heap.objs.size + 1) :: us, []⟩ (Value.ref (s.heap.objs.size + 1) :: (us ++ ds)) _ _ E (hr.make C us []) (I2.env0.make C us []) (hb _ (Value.ref (s.heap.objs.size + 1) :: us) I2.kIn hl) r2 q) fun rr s' hq => ?_))
  cases rr with
  | error e => exact hx _ _ e s' I2 hq
  | ok fl =>
    cases fl with
    | ret u =>
      obtain ⟨v, H', J, rv, e, q'⟩ := I2.after hq
      subst e
      obtain rfl : u = Value.none := rv
      exact ⟨rfl, .ref _, H', J, rfl, q'⟩
    | next => exact False.elim hq
    | brk => exact False.elim hq
    | cont => exact False.elim hq
theorem pe_makeE (M : Mk X.K C f) (F : FnOk X.prog X.w X.K X.mg X.base CX k f fd ps sp) (hr : Room (k + 1) X.A) (hg : Gl X x) (hm : X.mg x = some (.ref C)) (hb : Binds X.K fd ps ds) (hd : Vals dvs ds) (hx : ∀ σ, PassesAt CX X σ (E σ))
    (ha : PA X (e :: es) t) (hdb : (x == ("__debug__" : Str)) = false := by decide) (he : starEach (e :: es) X.env = (false, eval e X.env) :: starEach es X.env := by rfl) (hpl : (backTo pos (starEach es X.env)).any (·.1) = false := by rfl) :
    PE X (.Call (.Name x p) (e :: es) [] pos) (tMakeE C sp dvs E t) :=
  ⟨fun pins s σ H Q I h => wpAny_Call_Name_kw (ld_glob I hg hm (PySem.W.callWith_K (h₀ := X.base) I.ok.mod.kin M.kp (thn (ha.run pos pins s σ H _ I h) fun us s1 hh => let ⟨vs, H1, I1, r, q⟩ := hh; ⟨I1.kIn, run_makeE M F hr hb hd (fun H1 s1 e s' J c => hx σ pins H1 s1 e s' J c) I1 r q⟩) he hpl) hdb)⟩
end
/-! ### one's own objects: len, == -/
theorem inst_of {X : Cx} {pins : List (Addr × Obj)} {σ : L2.St} {H : Hp} {s : Shared} {a C dx : Addr} {fs : List (Str × V)} (I : Inv X pins σ H s) (e : H a = some (.ins C dx fs)) : ∃ ox od, PySem.W.InstAt s.heap a ox C (some od) := by
  obtain ⟨mA, ⟨ob, hns, _⟩, _⟩ := ins_get I.hok e
  obtain ⟨od, ho, _⟩ := lookIn_ns hns
  exact ⟨_, od, ob, rfl, rfl, ho⟩
section
variable {X : Cx} {CX : CXT} {k : Nat} {f C : Addr} {fd : FuncData} {ps : List Str} {sp : Sp} {E : XK}
theorem call_lenO {K : Frag} (hK : X.K = K) (hs : findIn K (.ref C) "__len__" = some (some (.ref f))) (hf : isFn K (.ref f) = true) (F : FnOk X.prog X.w X.K X.mg X.base CX k f fd ps sp) (hr : Room (k + 1) X.A) (hb : Binds X.K fd ps []) (hx : Passes CX X E) :
    CallR X (.builtin "len") (fun xs H Q => ∃ a dx fs, xs = [.ref a] ∧ H a = some (.ins C dx fs) ∧ sp [.ref a] H (fun v H' => ∃ n : Int, v = .int n ∧ 0 ≤ n ∧ n < 2 ^ 63 ∧ Q (.int n) H') E) := by
  subst hK
  intro pins s σ H xs us Q I r h
  obtain ⟨a, dx, fs, rfl, ea, q⟩ := h
  rw [Vals.ref1 r]
  obtain ⟨ox, od, J⟩ := inst_of I ea
  obtain ⟨m, hn, _⟩ := I.loc
  have Fr0 : Fr X.base X.env.locals s.heap m := ⟨hn, I.bk, Nat.le_trans I.ok.bsz I.ok.above⟩
  have hl : [Value.ref a].length = ps.length := by
    have z := F.len _ _ _ _ q
    exact z
  have b := hb s [.ref a] I.kIn (by rw [List.append_nil]; exact hl)
  rw [List.append_nil] at b
  refine PySem.W.len_K Fr0 I.ok.mod.kin J hs hf (wpAny_call (codeAny_mono (F.run X.A.in1 X.stack s H ⟨[.ref a], []⟩ [.ref a] [.ref a] _ E hr.in1 I.env0.in1 b (.cons rfl .nil) q) fun rr s' hq => ?_))
  cases rr with
  | error e => exact hx pins σ H s e s' I hq
  | ok fl =>
    cases fl with
    | ret u =>
      obtain ⟨v, H', J', rv, n, rfl, h0, h1, qq⟩ := I.after hq
      obtain ⟨t, rfl⟩ := rv
      exact ⟨⟨h0, h1⟩, .int n, H', J'.tok _, ⟨_, rfl⟩, qq⟩
    | next => exact False.elim hq
    | brk => exact False.elim hq
    | cont => exact False.elim hq
theorem rc_own {prog : Program} {w : World} {A : Around} {E : Value → Shared → Prop} {s : Shared} {K : Frag} {x y : Addr} {ox oy : Obj} {od od2 : Option Obj} {Q : Value → Shared → Prop} (hu : A.units < cLine) (XI : K.In s.heap) (I : PySem.W.InstAt s.heap x ox C od) (J : PySem.W.InstAt s.heap y oy C od2)
    (hs : findIn K (.ref C) "__eq__" = some (some (.ref f))) (hf : isFn K (.ref f) = true) (h : wpAny (model prog w) A (call (.ref f) [.ref x, .ref y]) (fun v s' => ∃ b, v = .bool b ∧ Q (.bool b) s') E s) : wpAny (model prog w) A (richCompare .Eq (.ref x) (.ref y)) Q E s := by
  unfold richCompare
  simp only [oneThing_ref]
  refine wpAny_holding (wpAny_bind (wpAny_cRoomFor hu ?_))
  rw [cmpInfo_Eq]
  dsimp only
  refine wpAny_bind (wpAny_typeOf_ref I.at_ (I.cls ▸ wpAny_bind (wpAny_typeOf_ref J.at_ ?_)))
  rw [J.cls]
  have e0 : (Value.ref C != Value.ref C) = false := by simp
  rw [e0]
  simp only [Bool.false_eq_true, if_false]
  refine wpAny_bind (wpAny_pure ?_)
  simp only [Bool.false_eq_true, if_false]
  unfold tryCompare
  refine wpAny_bind (wpAny_bind (ifBound_K XI I hs hf (wpAny_mono h (fun v s' hv => ?_) fun _ _ z => z)))
  obtain ⟨b, rfl, hq⟩ := hv
  exact wpAny_pure (wpAny_pure hq)
theorem op_eqO {K : Frag} (hK : X.K = K) (hs : findIn K (.ref C) "__eq__" = some (some (.ref f))) (hf : isFn K (.ref f) = true) (F : FnOk X.prog X.w X.K X.mg X.base CX k f fd ps sp) (hr : Room k X.A) (hb : Binds X.K fd ps []) (hx : Passes CX X E) :
    OpR X (compareOp .Eq) (fun x y H Q => ∃ a dx fs b dy gs, x = .ref a ∧ y = .ref b ∧ H a = some (.ins C dx fs) ∧ H b = some (.ins C dy gs) ∧ sp [.ref a, .ref b] H (fun v H' => ∃ z, v = .bl z ∧ Q (.bl z) H') E) := by
  subst hK
  intro pins s σ H x y v u Q I rx ry h
  obtain ⟨a, dx, fs, b, dy, gs, rfl, rfl, ea, eb, q⟩ := h
  obtain rfl : v = Value.ref a := rx
  obtain rfl : u = Value.ref b := ry
  obtain ⟨ox, od, J⟩ := inst_of I ea
  obtain ⟨oy, od2, J2⟩ := inst_of I eb
  refine PySem.W.cmp_ofEq (rc_own hr.units0 I.kIn J J2 hs hf ?_)
  have hd : Vals ([] : List V) ([] : List Value) := .nil
  refine wpAny_mono (run_fn (us := [.ref a, .ref b]) (vs := [.ref a, .ref b]) F hr hb hd hx I (.cons rfl (.cons rfl .nil)) (by rw [List.append_nil]; exact q)) (fun r s' hq => ?_) fun _ _ z => z
  obtain ⟨v, H', J', rv, z, rfl, qq⟩ := hq
  obtain rfl : r = Value.bool z := rv
  exact ⟨z, rfl, .bl z, H', J', rfl, qq⟩
end
/-! ### == and != of lists and tuples whose items are one and the same, or plain data -/
inductive E1 (K : Frag) (H : Hp) : V → V → Bool → Prop
  | same (a : Addr) : E1 K H (.ref a) (.ref a) true
  | str (a b : Str) : E1 K H (.str a) (.str b) (a == b)
  | dat {x y : V} {d e : PyData} : Dp K H x d → Dp K H y e → SeqAt.shaped d = true → SeqAt.shaped e = true → E1 K H x y (PyData.eqv d e)
inductive E1s (K : Frag) (H : Hp) : List V → List V → Bool → Prop
  | nil : E1s K H [] [] true
  | cons {x y : V} {xs ys : List V} {b c : Bool} : E1 K H x y b → E1s K H xs ys c → E1s K H (x :: xs) (y :: ys) (b && c)
def rEqX (K : Frag) : R2 := fun x y H Q => ∃ a b xs ys c, x = .ref a ∧ y = .ref b ∧ ((SqT K H a xs ∧ SqT K H b ys) ∨ (SqL K H a xs ∧ SqL K H b ys)) ∧ E1s K H xs ys c ∧ Q (.bl c) H
def rNeX (K : Frag) : R2 := fun x y H Q => ∃ a b xs ys c, x = .ref a ∧ y = .ref b ∧ ((SqT K H a xs ∧ SqT K H b ys) ∨ (SqL K H a xs ∧ SqL K H b ys)) ∧ E1s K H xs ys c ∧ Q (.bl (!c)) H
section
variable {X : Cx} {pins : List (Addr × Obj)} {σ : L2.St} {H : Hp} {s : Shared}
theorem E1.at (I : Inv X pins σ H s) {A : Around} (hu : A.units + 64 < cLine) {x y : V} {c : Bool} (h : E1 X.K H x y c) {u v : Value} (ru : RelV x u) (rv : RelV y v) : SeqAt.EqAt A s u v c := by
  cases h with
  | same a =>
    obtain rfl : u = Value.ref a := ru
    obtain rfl : v = Value.ref a := rv
    exact SeqAt.EqAt.same _
  | str a b =>
    obtain ⟨t, rfl⟩ := ru
    obtain ⟨t', rfl⟩ := rv
    exact SeqAt.EqAt.str_str _ _ _ _
  | @dat _ _ d e hd he sd se =>
    obtain ⟨as, r1⟩ := Dp.reads I d x u hd ru
    obtain ⟨bs, r2⟩ := Dp.reads I e y v he rv
    exact SeqAt.eqAt_reads d e A s u v as bs r1 r2 (SeqAt.canLay_of_shaped sd) (SeqAt.canLay_of_shaped se) (SeqAt.room_of_shaped sd hu)
theorem E1s.at (I : Inv X pins σ H s) {A : Around} (hu : A.units + 64 < cLine) {xs ys : List V} {c : Bool} (h : E1s X.K H xs ys c) : ∀ {us vs : List Value}, Vals xs us → Vals ys vs → us.length = vs.length ∧ ∃ e : Nat → Bool, (∀ j (h1 : j < us.length) (h2 : j < vs.length), SeqAt.EqAt A s us[j] vs[j] (e j)) ∧ ((List.range us.length).all e) = c := by
  induction h with
  | nil =>
    intro us vs r1 r2
    cases r1
    cases r2
    exact ⟨rfl, fun _ => true, fun j h1 => absurd h1 (Nat.not_lt_zero j), rfl⟩
  | @cons x y xs ys b c h1 _ ih =>
    intro us vs r1 r2
    cases r1 with
    | @cons _ u _ us ru rus =>
      cases r2 with
      | @cons _ v _ vs rv rvs =>
        obtain ⟨l, e, q, z⟩ := ih rus rvs
        refine ⟨congrArg (· + 1) l, fun j => match j with | 0 => b | j + 1 => e j, fun j h1' h2' => ?_, ?_⟩
        · cases j with
          | zero => exact h1.at I hu ru rv
          | succ j => exact q j (Nat.lt_of_succ_lt_succ h1') (Nat.lt_of_succ_lt_succ h2')
        · rw [List.length_cons, List.range_succ_eq_map, List.all_cons, List.all_map]
          exact congrArg (b && ·) z
theorem op_eqX {K : Frag} (hK : X.K = K) (hu : X.A.units + 128 < cLine) : OpR X (compareOp .Eq) (rEqX K) := by
  subst hK
  intro pins s σ H x y v u Q I rx ry h
  obtain ⟨a, b, xs, ys, c, rfl, rfl, hs, e1, q⟩ := h
  obtain rfl : v = Value.ref a := rx
  obtain rfl : u = Value.ref b := ry
  have hu1 : X.A.in1.units + 64 < cLine := by
    show X.A.units + 1 + 64 < cLine
    omega
  rcases hs with ⟨sa, sb⟩ | ⟨sa, sb⟩
  · obtain ⟨us, r1, ⟨o1, ho1, hc1, n1, hd1⟩, _⟩ := I.tuple sa
    obtain ⟨vs, r2, ⟨o2, ho2, hc2, n2, hd2⟩, _⟩ := I.tuple sb
    obtain ⟨l, e, he, z⟩ := e1.at I hu1 r1 r2
    refine SeqAt.eq_tupleAt (items := us.toArray) (items2 := vs.toArray) (e := e) ⟨o1, ho1, hc1, n1, hd1⟩ ⟨o2, ho2, hc2, n2, hd2⟩ (by omega) (fun j h1 h2 => he j h1 h2) ?_
    have w : ((List.range (min us.toArray.size vs.toArray.size)).all e && us.toArray.size == vs.toArray.size) = c := by
      rw [List.size_toArray, List.size_toArray, ← l, Nat.min_self, z, beq_self_eq_true, Bool.and_true]
    rw [w]
    exact ⟨.bl c, H, I, rfl, q⟩
  · obtain ⟨us, r1, ⟨o1, n1, ho1, hc1, _, hd1⟩, _⟩ := I.list sa
    obtain ⟨vs, r2, ⟨o2, n2, ho2, hc2, _, hd2⟩, _⟩ := I.list sb
    obtain ⟨l, e, he, z⟩ := e1.at I hu1 r1 r2
    refine SeqAt.eq_listAt (items := us.toArray) (items2 := vs.toArray) (e := e) ⟨o1, ho1, hc1, n1, hd1⟩ ⟨o2, ho2, hc2, n2, hd2⟩ (by rw [List.size_toArray, List.size_toArray]; exact l) (by omega) (fun j h1 h2 => he j h1 h2) ?_
    rw [List.size_toArray, z]
    exact ⟨.bl c, H, I, rfl, q⟩
theorem op_neX {K : Frag} (hK : X.K = K) (hu : X.A.units + 128 < cLine) : OpR X (compareOp .NotEq) (rNeX K) := by
  subst hK
  intro pins s σ H x y v u Q I rx ry h
  obtain ⟨a, b, xs, ys, c, rfl, rfl, hs, e1, q⟩ := h
  obtain rfl : v = Value.ref a := rx
  obtain rfl : u = Value.ref b := ry
  have hu1 : X.A.in1.units + 64 < cLine := by
    show X.A.units + 1 + 64 < cLine
    omega
  rcases hs with ⟨sa, sb⟩ | ⟨sa, sb⟩
  · obtain ⟨us, r1, ⟨o1, ho1, hc1, n1, hd1⟩, _⟩ := I.tuple sa
    obtain ⟨vs, r2, ⟨o2, ho2, hc2, n2, hd2⟩, _⟩ := I.tuple sb
    obtain ⟨l, e, he, z⟩ := e1.at I hu1 r1 r2
    refine PySem.W.cmp_ofNotEq (SeqAt.RcNeAt.tuples (items := us.toArray) (items2 := vs.toArray) (e := e) ⟨o1, ho1, hc1, n1, hd1⟩ ⟨o2, ho2, hc2, n2, hd2⟩ (by omega) (fun j h1 h2 => he j h1 h2) _ _ _ _ ?_)
    have w : ((List.range (min us.toArray.size vs.toArray.size)).all e && us.toArray.size == vs.toArray.size) = c := by
      rw [List.size_toArray, List.size_toArray, ← l, Nat.min_self, z, beq_self_eq_true, Bool.and_true]
    rw [w]
    exact ⟨.bl _, H, I, rfl, q⟩
  · obtain ⟨us, r1, ⟨o1, n1, ho1, hc1, _, hd1⟩, _⟩ := I.list sa
    obtain ⟨vs, r2, ⟨o2, n2, ho2, hc2, _, hd2⟩, _⟩ := I.list sb
    obtain ⟨l, e, he, z⟩ := e1.at I hu1 r1 r2
    refine PySem.W.cmp_ofNotEq (SeqAt.RcNeAt.lists (items := us.toArray) (items2 := vs.toArray) (e := e) ⟨o1, ho1, hc1, n1, hd1⟩ ⟨o2, ho2, hc2, n2, hd2⟩ (by rw [List.size_toArray, List.size_toArray]; exact l) (by omega) (fun j h1 h2 => he j h1 h2) _ _ _ _ ?_)
    rw [List.size_toArray, z]
    exact ⟨.bl _, H, I, rfl, q⟩
end
end CH

/-! ### != of own objects by their own ==; enumerate over a tuple; methods with keywords -/
namespace CH
open PySem PySem.Spec PyProof.Rows PySem.W PySem.Calls L2
section
variable {X : Cx} {CX : CXT} {k : Nat} {f C : Addr} {fd : FuncData} {ps : List Str} {sp : Sp} {E : XK}
theorem ne_entry {pg : Program} {w : World} {A : Around} {E : Value → Shared → Prop} {s : Shared} {K : Frag} {x y : Addr} {ox : Obj} {od : Option Obj} {Q : Fin → Shared → Prop} (hu : A.units < cLine) (XI : K.In s.heap) (I : PySem.W.InstAt s.heap x ox C od)
    (hs : findIn K (.ref C) "__eq__" = some (some (.ref f))) (hf : isFn K (.ref f) = true) (h : wpAny (model pg w) A (call (.ref f) [.ref x, .ref y]) (fun v s' => ∃ b, v = .bool b ∧ Q (.done (.ret (.bool (!b)))) s') E s) :
    wpAny (model pg w) A (Builtin.«object.__ne__» ⟨[.ref x, .ref y], []⟩) Q E s := by
  unfold Builtin.«object.__ne__»
  refine wpAny_bind (wpAny_of_eq (a := ((Value.ref x : Value), [Value.ref y])) (by first | rfl | (simp only [slotArgs]; rfl)) ?_)
  refine wpAny_bind (wpAny_cRoomFor hu ?_)
  refine wpAny_bind (ifBound_K XI I hs hf (wpAny_mono h (fun v s' hv => ?_) fun _ _ z => z))
  obtain ⟨b, rfl, hq⟩ := hv
  refine wpAny_bind (wpAny_truthy_bool ?_)
  exact wpAny_pure hq
theorem rn_own {pg : Program} {w : World} {A : Around} {E : Value → Shared → Prop} {s : Shared} {K : Frag} {x y : Addr} {ox oy : Obj} {od od2 : Option Obj} {Q : Value → Shared → Prop} (hu : A.units + 1 < cLine) (XI : K.In s.heap) (I : PySem.W.InstAt s.heap x ox C od) (J : PySem.W.InstAt s.heap y oy C od2)
    (hn : findIn K (.ref C) "__ne__" = some (some (.builtin "object.__ne__"))) (hm : mroIn K C (.type "object") = some true)
    (hs : findIn K (.ref C) "__eq__" = some (some (.ref f))) (hf : isFn K (.ref f) = true) (h : wpAny (model pg w) A.in1 (call (.ref f) [.ref x, .ref y]) (fun v s' => ∃ b, v = .bool b ∧ Q (.bool (!b)) s') E s) : wpAny (model pg w) A (richCompare .NotEq (.ref x) (.ref y)) Q E s := by
  unfold richCompare
  simp only [oneThing_ref]
  refine wpAny_holding (wpAny_bind (wpAny_cRoomFor (by omega) ?_))
  rw [cmpInfo_NotEq]
  dsimp only
  refine wpAny_bind (wpAny_typeOf_ref I.at_ (I.cls ▸ wpAny_bind (wpAny_typeOf_ref J.at_ ?_)))
  rw [J.cls]
  have e0 : (Value.ref C != Value.ref C) = false := by simp
  rw [e0]
  simp only [Bool.false_eq_true, if_false]
  refine wpAny_bind (wpAny_pure ?_)
  simp only [Bool.false_eq_true, if_false]
  unfold tryCompare
  refine wpAny_bind (wpAny_bind ?_)
  simp only [callSpecialIfBound?, bindSpecialIfBound?]
  refine wpAny_holding (wpAny_bind (wpAny_bind (wpAny_bind (I.type.here ((looks_findIn XI hn).here ?_)))))
  simp only [F.cmp_object.ne.bind]
  refine wpAny_bind (wpAny_askSetting (wpAny_ite ?_))
  have fin : wpAny (model pg w) A (call (.builtin "object.__ne__") ([.ref x] ++ [.ref y]) >>= fun v => pure (some v)) (fun r s' => ∃ b, r = some (.bool b) ∧ Q (.bool b) s') E s := by
    refine wpAny_bind (wpAny_call (codeAny_call_builtin F.cmp_object.ne.plain F.cmpEntry_ne (check_slot (rest := [.ref y]) F.cmpKind_ne F.cmpSplit_ne (I.type.andThen (looks_mroIn XI hm)) (F.cmpArgs_ne _ _) ?_)))
    refine ne_entry (A := A.in1) (by show A.units + 1 < cLine; exact hu) XI I hs hf (wpAny_mono h (fun v s' hv => ?_) fun _ _ z => z)
    obtain ⟨b, rfl, hq⟩ := hv
    exact ⟨b, rfl, wpAny_pure ⟨_, rfl, hq⟩⟩
  split
  · refine wpAny_bind (wpAny_pure (wpAny_pure (wpAny_mono fin (fun r s' hr => ?_) fun _ _ z => z)))
    obtain ⟨b, rfl, hq⟩ := hr
    exact wpAny_pure (wpAny_pure hq)
  · refine wpAny_tryCatch (wpAny_bind (wpAny_pure (wpAny_pure (wpAny_mono fin (fun r s' hr => ?_) fun _ _ z => z))))
    obtain ⟨b, rfl, hq⟩ := hr
    exact wpAny_pure (wpAny_pure hq)
theorem op_neO {K : Frag} (hK : X.K = K) (hn : findIn K (.ref C) "__ne__" = some (some (.builtin "object.__ne__"))) (hm : mroIn K C (.type "object") = some true) (hs : findIn K (.ref C) "__eq__" = some (some (.ref f))) (hf : isFn K (.ref f) = true) (F : FnOk X.prog X.w X.K X.mg X.base CX k f fd ps sp) (hr : Room (k + 1) X.A) (hb : Binds X.K fd ps []) (hx : Passes CX X E) :
    OpR X (compareOp .NotEq) (fun x y H Q => ∃ a dx fs b dy gs, x = .ref a ∧ y = .ref b ∧ H a = some (.ins C dx fs) ∧ H b = some (.ins C dy gs) ∧ sp [.ref a, .ref b] H (fun v H' => ∃ z, v = .bl z ∧ Q (.bl (!z)) H') E) := by
  subst hK
  intro pins s σ H x y v u Q I rx ry h
  obtain ⟨a, dx, fs, b, dy, gs, rfl, rfl, ea, eb, q⟩ := h
  obtain rfl : v = Value.ref a := rx
  obtain rfl : u = Value.ref b := ry
  obtain ⟨ox, od, J⟩ := inst_of I ea
  obtain ⟨oy, od2, J2⟩ := inst_of I eb
  refine PySem.W.cmp_ofNotEq (rn_own (by have := hr.un; omega) I.kIn J J2 hn hm hs hf ?_)
  have hl : [Value.ref a, Value.ref b].length = ps.length := F.len _ _ _ _ q
  have bd := hb s [.ref a, .ref b] I.kIn (by rw [List.append_nil]; exact hl)
  rw [List.append_nil] at bd
  refine wpAny_call (codeAny_mono (F.run X.A.in1 X.stack s H ⟨[.ref a, .ref b], []⟩ [.ref a, .ref b] [.ref a, .ref b] _ E hr.in1 I.env0.in1 bd (.cons rfl (.cons rfl .nil)) q) fun rr s' hq => ?_)
  cases rr with
  | error e => exact hx pins σ H s e s' I hq
  | ok fl =>
    cases fl with
    | ret u =>
      obtain ⟨v, H', J', rv, z, rfl, qq⟩ := I.after hq
      obtain rfl : u = Value.bool z := rv
      exact ⟨z, rfl, .bl (!z), H', J', rfl, qq⟩
    | next => exact False.elim hq
    | brk => exact False.elim hq
    | cont => exact False.elim hq
end
end CH
namespace CH
open PySem PySem.Spec PyProof.Rows PySem.W PySem.Calls L2
theorem meets_enum1 {v : Value} {o : Obj} {HH : Heap → Prop} (B : Begins v o HH) :
    Meets (Builtin.«enumerate.__new__» ⟨[.type "enumerate", v], []⟩) (fun _ R s => HH s.heap ∧
      R (.ok (.ret (.ref (s.heap.push o).objs.size))) { s with heap := (s.heap.push o).push { cls := .type "enumerate", data := .fields #[.none, .bool false, .ref s.heap.objs.size, rawInt 0, .none, .none] } }) :=
  .of_wp fun pg w A R s hh => by
    obtain ⟨hp, g, d, tk, os⟩ := s
    obtain ⟨h1, h2⟩ := hh
    have sb := sub_enumerate
    have q1 : ∀ {A1 : Around} {E1 : Value → Shared → Prop} {Q1 : Value → Shared → Prop}, Q1 (.ref hp.objs.size) ⟨hp.push o, g, d, tk, os⟩ → wpAny (model pg w) A1 (pyIter v) Q1 E1 ⟨hp, g, d, tk, os⟩ := fun q => B.iter pg w _ _ ⟨hp, g, d, tk, os⟩ _ h1 q
    wp_walk using q1
    refine wpAny_stack_any fun st => wpAny_pure ?_
    split
    · rename_i c _ _ _ _ _
      cases (c == Value.type "enumerate")
      all_goals wp_walk using q1
      all_goals exact ⟨_, rfl, h2⟩
    · wp_walk using q1
      exact ⟨_, rfl, h2⟩
theorem call_enum1 {pg : Program} {w : World} {A : Around} {E : Value → Shared → Prop} {s : Shared} {v : Value} {o : Obj} {HH : Heap → Prop} {Q : Value → Shared → Prop} (B : Begins v o HH) (h1 : HH s.heap)
    (h : ∀ h', IsEnum h' (s.heap.objs.size + 1) s.heap.objs.size 0 .none → h'.get? s.heap.objs.size = some o → h'.objs.size = s.heap.objs.size + 2 → (∀ b o, s.heap.get? b = some o → h'.get? b = some o) → Q (.ref (s.heap.objs.size + 1)) { s with heap := h' }) :
    wpAny (model pg w) A (call (.type "enumerate") [v]) Q E s := by
  refine callType_new F.called_enumerate (by decide) (F.typeCall_enumerate_1 _) (F.newCall_enumerate_1 _) (fun obj => F.args_object_init_2 obj _) F.entry_enumerate_new (meets_enum1 B) ⟨h1, ?_⟩
  have hz : (s.heap.push o).objs.size = s.heap.objs.size + 1 := Heap.size_push ..
  show _ ∧ _
  rw [hz]
  have he : IsEnum ((s.heap.push o).push { cls := .type "enumerate", data := .fields #[.none, .bool false, .ref s.heap.objs.size, rawInt 0, .none, .none] }) (s.heap.objs.size + 1) s.heap.objs.size 0 .none := by
    have z := Heap.get?_push_size (s.heap.push o) (o := { cls := .type "enumerate", data := .fields #[.none, .bool false, .ref s.heap.objs.size, rawInt 0, .none, .none] }) rfl
    rw [hz] at z
    exact z
  exact ⟨⟨_, he, rfl⟩, h _ he (Heap.get?_push_of_some _ (Heap.get?_push_size _ B.free)) (by rw [Heap.size_push, hz]) fun b o x => Heap.get?_push_of_some _ (Heap.get?_push_of_some _ x)⟩
def ItEt (K : Frag) (a : Addr) : It :=
  ⟨fun i H => ∃ (xs : List V) (x : V), SqT K H a xs ∧ xs[i]? = some x, fun i H v H' => ∃ T x, v = .ref T ∧ H T = none ∧ H' = upd H T (.tup [.int (i : Nat), x]) ∧ ∀ xs, SqT K H a xs → xs[i]? = some x, fun i H => ∃ xs : List V, SqT K H a xs ∧ xs.length = i⟩
theorem turn_enumT {P : Program} {w : World} {K : Frag} {elts : List Expr} {kk : Nat} {tp : Pos} (a e it : Addr) :
    Turn P w K (.Tuple elts kk tp) (ItEt K a) [e, it] e (fun i h => (∃ old, IsEnum h e it ((i : Nat) : Int) old) ∧ h.IsTupleIter it a i ∧ e ≠ it) where
  mem := by simp
  obj := fun i h st b hb => by
    obtain ⟨⟨old, he⟩, ⟨o, ho, hc, hd⟩, _⟩ := st
    have eb : b = e ∨ b = it := by simpa using hb
    rcases eb with z | z
    · rw [z]; exact ⟨_, he, fun v q => nomatch q⟩
    · rw [z]; exact ⟨o, ho, fun v q => by rw [hd] at q; cases q⟩
  keep := fun i h h' st k => ⟨⟨st.1.choose, k e (by simp) _ st.1.choose_spec⟩, st.2.1.at fun o q => k it (by simp) o q, st.2.2⟩
  item := by
    intro X hP hw hK hc i pins s σ H E I hf st hg
    subst hP hw hK
    obtain ⟨⟨old, he⟩, hit, hne⟩ := st
    obtain ⟨xs, x, hq, hx⟩ := hg
    obtain ⟨its, rv, p, hz⟩ := I.tuple hq
    obtain ⟨u, hu, ru⟩ := rv.get hx
    have hel : e < s.heap.objs.size := Heap.lt_size he
    have hil : it < s.heap.objs.size := by obtain ⟨_, q, _⟩ := hit; exact Heap.lt_size q
    have p' : s.heap.IsTuple a its.toArray := p
    have hai : a ≠ it := fun z => by
      obtain ⟨o1, q1, c1, _⟩ := p'
      obtain ⟨o2, q2, c2, _⟩ := hit
      rw [z, q2] at q1
      cases q1
      rw [c2] at c1
      exact absurd (Value.type.inj c1) (by decide)
    have hae : a ≠ e := fun z => by
      obtain ⟨o1, q1, c1, _⟩ := p'
      have q2 : s.heap.get? e = some _ := he
      rw [z, q2] at q1
      cases q1
      exact absurd (Value.type.inj c1) (by decide)
    have hi : i < its.toArray.size := by
      rw [List.size_toArray]
      exact (List.getElem?_eq_some_iff.mp hu).1
    refine wpAny_pyNext_enum_itemD (Draws.tuple (A := X.A.in1) (I.ok.hd hc) it a hai its.toArray) he ⟨hit, p'⟩ hi hne (by simp; exact ⟨hne, fun z => hae z.symm⟩) fun y h' tk hy ho hit' hT hsz hk => ?_
    have ey : y = u := by
      have z : its[i]? = some y := by simpa using hy
      rw [hu] at z
      exact (Option.some.inj z).symm
    subst ey
    refine ⟨_, rfl, wpAny_letOwnedTupleGo_enum (s := { s with heap := h', toks := tk + 1 }) ho fun h2 he2 sb => ?_⟩
    have hT2 : h2.get? s.heap.objs.size = some { cls := .type "tuple", data := .seq #[.int i tk, y] } := (sb.2 _ (Nat.ne_of_gt hel)).trans hT
    have new : ObjOk X.prog X.w (upd H s.heap.objs.size (.tup [.int (i : Nat), x])) h2 s.heap.objs.size (.tup [.int (i : Nat), x]) := ⟨by show 2 ≤ sizeLine; decide, [.int i tk, y], .cons ⟨_, rfl⟩ (.cons ru .nil), ⟨_, hT2, rfl, _, rfl⟩⟩
    have I1 : Inv X pins σ (upd H s.heap.objs.size (.tup [.int (i : Nat), x])) { s with heap := h2, toks := tk + 1 } :=
      I.turnedNew (ch := [e, it]) (fun b ob hb q => (sb.2 b (fun z => hb (by simp [z]))).trans (hk b ob (fun z => hb (by simp [z])) (fun z => hb (by simp [z])) q)) hf (Nat.le_refl _) new
    refine ⟨.ref s.heap.objs.size, _, I1, rfl, ⟨_, x, rfl, I.hok.fresh (Nat.le_refl _), rfl, fun ys hy => by rw [I.tuple_inj hy hq]; exact hx⟩, ⟨⟨y, ?_⟩, hit'.1.at fun o q => (sb.2 it (Ne.symm hne)).trans q, hne⟩, fun b hb => ?_⟩
    · have e1 : ((i + 1 : Nat) : Int) = (i : Int) + 1 := by omega
      rw [e1]
      exact he2
    · have hb' : b < s.heap.objs.size := by
        have eb : b = e ∨ b = it := by simpa using hb
        rcases eb with z | z
        · rw [z]; exact hel
        · rw [z]; exact hil
      rw [upd_ne (Nat.ne_of_lt hb')]
      exact (hf b hb).1
  done := by
    intro X hP hw hK hc i pins s σ H E I hf st hg
    subst hP hw hK
    obtain ⟨⟨old, he⟩, hit, hne⟩ := st
    obtain ⟨xs, hq, hx⟩ := hg
    obtain ⟨its, rv, p, hz⟩ := I.tuple hq
    obtain ⟨f0, f1, f2, f3, f4, f5⟩ := hf it (by simp)
    have hl := rv.length
    have p' : s.heap.IsTuple a its.toArray := p
    have hai : a ≠ it := fun z => by
      obtain ⟨o1, q1, c1, _⟩ := p'
      obtain ⟨o2, q2, c2, _⟩ := hit
      rw [z, q2] at q1
      cases q1
      rw [c2] at c1
      exact absurd (Value.type.inj c1) (by decide)
    have hi : i = its.toArray.size := by
      rw [List.size_toArray]
      omega
    subst hi
    exact wpAny_pyNext_enum_endD (Draws.tuple (A := X.A.in1) (I.ok.hd hc) it a hai its.toArray) he ⟨hit, p'⟩ fun h' eb => ⟨rfl, I.turned (t' := s.toks) (fun b o hb e => eb b o hb e) f0 f1 f3 f4 f5⟩
  self := fun A i s Q E st h => wpAny_pyIter_enum st.1.choose_spec h
def iEnumT (K : Frag) (ta : TA) : TI := fun σ H R => ta σ H fun vs H1 => ∃ a xs, vs = [.ref a] ∧ SqT K H1 a xs ∧ R (ItEt K a) H1
theorem pi_enumT {X : Cx} {K : Frag} {e : Expr} {ta : TA} {p pos tp : Pos} {elts : List Expr} {kk : Nat} (hK : X.K = K) (hg : Gl X "enumerate") (hm : X.mg "enumerate" = none) (ha : PA X [e] ta) (hs : starEach [e] X.env = [(false, eval e X.env)] := by rfl) :
    PI X (.Tuple elts kk tp) (.Call (.Name "enumerate" p) [e] [] pos) (iEnumT K ta) := by
  subst hK
  refine ⟨fun pins s σ H R I h => ?_⟩
  refine Call_ (ld_blt I hg hm boot_enumerate (PyProof.Rows.callWith_type1 (thn (ha.run pos pins s σ H _ I h) fun us s1 hh => ?_) hs rfl))
  obtain ⟨vs, H1, I1, r1, a, xs, ex, hq, q⟩ := hh
  subst ex
  cases r1 with
  | cons r rr =>
    cases rr
    cases r
    obtain ⟨its, rv, p', hz⟩ := I1.tuple hq
    refine call_enum1 (begins_tuple a its.toArray) p' fun h' he hit hsz hk => wpAny_pyIter_enum he ?_
    have I2 : Inv X pins σ H1 { s1 with heap := h' } := I1.kept (t' := s1.toks) hk
    refine ⟨s1.heap.objs.size + 1, [s1.heap.objs.size + 1, s1.heap.objs.size], _, _, H1, rfl, I2, turn_enumT a (s1.heap.objs.size + 1) s1.heap.objs.size, ⟨⟨.none, he⟩, ⟨_, hit, rfl, rfl⟩, Nat.succ_ne_self _⟩, fun b hb => ?_, q⟩
    have hle : s1.heap.objs.size ≤ b := by
      have eb : b = s1.heap.objs.size + 1 ∨ b = s1.heap.objs.size := by simpa using hb
      rcases eb with z | z
      · rw [z]; exact Nat.le_add_right _ _
      · rw [z]; exact Nat.le_refl _
    exact I1.fpOk hle (I1.hok.fresh hle)
theorem walk_enumT {K : Frag} {a : Addr} {xs : List V} : Walk (ItEt K a) xs.length (fun H => SqT K H a xs) (YPair (fun i => some (.int (i : Nat))) (fun i => xs[i]?)) := by
  refine ⟨fun i _ hi q => ⟨xs, xs[i], q, by simp [hi]⟩, fun _ q => ⟨xs, q, rfl⟩, fun i H v H' _ q y => ?_⟩
  obtain ⟨T, x, h1, h2, h3, h4⟩ := y
  exact ⟨T, .int (i : Nat), x, h1, h2, h3, rfl, h4 xs q⟩
end CH
namespace CH
open PySem PySem.Spec PyProof.Rows PySem.W PySem.Calls L2
/-- o.m(e, .., k = v, ..) -/
def tMethN (C : Addr) (m : Str) (n j : Nat) (sp : Sp) (gV : List V → List V → List V) (E : XK) (ta : TE) (t tk : TA) : TE := fun σ H Q => ta σ H fun x H1 => ∃ a dx fs, x = .ref a ∧ H1 a = some (.ins C dx fs) ∧ fs.lookup m = none ∧ t σ H1 fun vs H2 => tk σ H2 fun zs H3 => vs.length = n ∧ zs.length = j ∧ sp (gV (x :: vs) zs) H3 Q E
section
variable {X : Cx} {CX : CXT} {k n : Nat} {f C : Addr} {fd : FuncData} {ps ks : List Str} {sp : Sp} {E : XK} {m : Str} {pos apos : Pos} {e o : Expr} {es : List Expr} {kws : List Keyword} {ta : TE} {t tk : TA} {g : List Value → List Value → List Value} {gV : List V → List V → List V}
theorem pe_methN {pl : Sem Bool} (he : PE X o ta) (c : Cls X.K C) (hm : Meth X.K C m f) (F : FnOk X.prog X.w X.K X.mg X.base CX k f fd ps sp) (hr : Room k X.A) (hb : KBn X.K fd ps (n + 1) ks g gV) (hx : Passes CX X E)
    (ha : PA X (e :: es) t) (hkw : PK X kws tk) (hall : (backToKw pos (keywordEach kws X.env)).all (·.1.isSome) = true := by rfl) (hks : (backToKw pos (keywordEach kws X.env)).filterMap (·.1) = ks := by rfl)
    (hst : starEach (e :: es) X.env = (false, eval e X.env) :: starEach es X.env := by rfl)
    (hpl : ((backTo pos (starEach (e :: es) X.env)).any (·.1) || (backToKw pos (keywordEach kws X.env)).any (·.1.isNone)) = false := by rfl)
    (ht : eval (.Call (.Attribute o m apos) (e :: es) kws pos) X.env = (eval o X.env >>= fun ov => standAt apos.atName >>= fun _ => holding [ov] (getMethod ov m pl) >>= fun r => callWith pos r.1 r.2 (backTo pos (starEach (e :: es) X.env)) (backToKw pos (keywordEach kws X.env))) := by rfl) :
    PE X (.Call (.Attribute o m apos) (e :: es) kws pos) (tMethN C m n ks.length sp gV E ta t tk) := by
  refine ⟨fun pins s σ H Q I h => PySem.W.methodCall_KW (pl := pl) (thn (he.run pins s σ H _ I h) fun u s1 hh => ?_) ht⟩
  obtain ⟨_, H1, I1, rx, a, dx, fs, rfl, ea, l, q⟩ := hh
  obtain rfl : u = Value.ref a := rx
  refine getmeth_ok I1 ea c hm l (PySem.W.callWith_KW (first := [.ref a]) (h₀ := X.base) I1.ok.mod.kin hm.kp hall (thn (ha.run pos pins s1 σ H1 _ I1 q) fun us s2 hh => ?_) hpl hst)
  obtain ⟨vs, H2, I2, r, q2⟩ := hh
  refine thn (hkw.run pos pins s2 σ H2 _ I2 q2) fun ws s3 hh => ?_
  obtain ⟨zs, H3, I3, rz, l1, l2, q3⟩ := hh
  refine ⟨I3.kIn, ?_⟩
  rw [hks]
  exact run_fnN (us := .ref a :: us) (vs := .ref a :: vs) F hr hb hx I3 (.cons rfl r) rz (congrArg (· + 1) l1) l2 q3
end
end CH

namespace CH
open PySem PySem.Spec PyProof.Rows L2
/-! ### readings, one a primitive -/
section
variable {K : PySem.W.Frag} {σ : L2.St} {H H1 H2 : Hp} {Q : VK} {D : Ends} {x y z v : V} {ta tb tc te to ti : TE} {t u : TT} {r r' : R2} {g : TG} {A B : Prop} {a p C dx : Addr} {fs : List (Str × V)} {f : Str}
theorem q_seq {t u : TS} (h : t { D with nx := u D } σ H) : tSeq t u D σ H := h
theorem q_next (h : D.nx σ H) : tNext D σ H := h
theorem q_asg (h : te σ H fun x H1 => g x σ H1 D.nx) : tAsg te g D σ H := h
theorem q_drop (h : te σ H fun _ H1 => D.nx σ H1) : tDrop te D σ H := h
theorem q_ret (h : te σ H D.rt) : tRet te D σ H := h
theorem q_retN (h : D.rt .non H) : tRetN D σ H := h
theorem q_if {c : TT} {t u : TS} (h : c σ H fun b H1 => if b = true then t D σ H1 else u D σ H1) : tIfS c t u D σ H := h
theorem q_brk (h : D.bk σ H) : tBreak D σ H := h
theorem q_cont (h : D.ct σ H) : tCont D σ H := h
theorem q_gname {i : Nat} {Q : L2.St → Hp → Prop} (h : Q (σ.set i (some v)) H) : gName i v σ H Q := h
theorem q_gsub {s : V → V → V → Hp → (Hp → Prop) → Prop} {Q : L2.St → Hp → Prop} (h : to σ H fun o H1 => ti σ H1 fun i H2 => s o i v H2 fun H3 => Q σ H3) : gSub to ti s v σ H Q := h
theorem q_gnil {Q : L2.St → Hp → Prop} (h : Q σ H) : gNil [] σ H Q := ⟨rfl, h⟩
theorem q_gcons {t : TG} {u : TGs} {r : List V} {Q : L2.St → Hp → Prop} (h : t v σ H fun σ' H' => u r σ' H' Q) : gCons t u (v :: r) σ H Q := ⟨v, r, rfl, h⟩
theorem q_gtup {n : Nat} {t : TGs} {xs : List V} {Q : L2.St → Hp → Prop} (h1 : SqT K H a xs) (h2 : xs.length = n) (h : t xs σ H Q) : gTup K n t (.ref a) σ H Q := ⟨a, xs, rfl, h1, h2, h⟩
theorem q_var {i : Nat} (e : σ[i]? = some (some v)) (h : Q v H) : tVar i σ H Q := ⟨v, e, h⟩
theorem q_c (h : Q v H) : tC v σ H Q := h
theorem q_op (h : ta σ H fun x H1 => tb σ H1 fun y H2 => r x y H2 Q) : tOp r ta tb σ H Q := h
theorem q_un {r : V → Hp → VK → Prop} (h : ta σ H fun x H1 => r x H1 Q) : tUn r ta σ H Q := h
theorem q_I {c : Int → Int → Prop} {gg : Int → Int → V} {i j : Int} (hc : c i j) (h : Q (gg i j) H) : rI c gg (.int i) (.int j) H Q := ⟨i, j, rfl, rfl, hc, h⟩
theorem q_I0 {gg : Int → Int → V} {i j : Int} (h : Q (gg i j) H) : rI0 gg (.int i) (.int j) H Q := ⟨i, j, rfl, rfl, h⟩
theorem q_U {gg : Int → V} {i : Int} (h : Q (gg i) H) : rU gg (.int i) H Q := ⟨i, rfl, h⟩
theorem q_eqI {i j : Int} (h : Q (.bl (decide (i = j))) H) : rEq (.int i) (.int j) H Q := ⟨rfl, by
  have e : decide (V.int i = V.int j) = decide (i = j) := by simp
  rw [e]; exact h⟩
theorem q_eqS {i j : Str} (h : Q (.bl (decide (i = j))) H) : rEq (.str i) (.str j) H Q := ⟨rfl, by
  have e : decide (V.str i = V.str j) = decide (i = j) := by simp
  rw [e]; exact h⟩
theorem q_eqB {i j : Bool} (h : Q (.bl (decide (i = j))) H) : rEq (.bl i) (.bl j) H Q := ⟨rfl, by
  have e : decide (V.bl i = V.bl j) = decide (i = j) := by simp
  rw [e]; exact h⟩
theorem q_eq0 (h1 : scal x y = true) (h2 : ¬ x = y) (h : Q (.bl false) H) : rEq x y H Q := ⟨h1, by rw [decide_eq_false h2]; exact h⟩
theorem q_neI {i j : Int} (h : Q (.bl (!decide (i = j))) H) : rNe (.int i) (.int j) H Q := ⟨rfl, by
  have e : decide (V.int i = V.int j) = decide (i = j) := by simp
  rw [e]; exact h⟩
theorem q_neS {i j : Str} (h : Q (.bl (!decide (i = j))) H) : rNe (.str i) (.str j) H Q := ⟨rfl, by
  have e : decide (V.str i = V.str j) = decide (i = j) := by simp
  rw [e]; exact h⟩
theorem q_neB {i j : Bool} (h : Q (.bl (!decide (i = j))) H) : rNe (.bl i) (.bl j) H Q := ⟨rfl, by
  have e : decide (V.bl i = V.bl j) = decide (i = j) := by simp
  rw [e]; exact h⟩
theorem q_ne0 (h1 : scal x y = true) (h2 : ¬ x = y) (h : Q (.bl true) H) : rNe x y H Q := ⟨h1, by rw [decide_eq_false h2]; exact h⟩
theorem q_ixL {xs : List V} {i : Int} (h : SqL K H p xs) (ha : atI xs i = some v) (q : Q v H) : rIxL K (.ref p) (.int i) H Q := ⟨p, xs, i, v, rfl, rfl, h, ha, q⟩
theorem q_ixT {xs : List V} {i : Int} (h : SqT K H p xs) (ha : atI xs i = some v) (q : Q v H) : rIxT K (.ref p) (.int i) H Q := ⟨p, xs, i, v, rfl, rfl, h, ha, q⟩
theorem q_ixS {s : Str} {i : Int} {c : Nat} (h : s.length ≤ sizeLine) (ha : atI s.cps.toList i = some c) (q : Q (.str ⟨#[c]⟩) H) : rIxS (.str s) (.int i) H Q := ⟨s, i, c, rfl, rfl, h, ha, q⟩
theorem q_setL {xs : List V} {k : Int} {j : Nat} {Q : Hp → Prop} (h : H p = some (.lst xs)) (hk : ixN xs.length k = some j) (q : Q (upd H p (.lst (xs.set j v)))) : rSetL (.ref p) (.int k) v H Q := ⟨p, xs, k, j, rfl, rfl, h, hk, q⟩
theorem q_test {Q : Bool → Hp → Prop} (h : te σ H fun x H' => ∃ k, x = .bl k ∧ Q k H') : tTest te σ H Q := h
theorem q_B {Q : Bool → Hp → Prop} (h : te σ H fun x H' => ∃ k, x = .bl k ∧ Q k H') : tB te σ H Q := h
theorem q_k {P : Bool → Prop} {b : Bool} (h : P b) : ∃ k, V.bl b = .bl k ∧ P k := ⟨b, rfl, h⟩
theorem q_and {Q : Bool → Hp → Prop} (h : t σ H fun c H1 => if c = true then u σ H1 Q else Q false H1) : tAnd t u σ H Q := h
theorem q_or {Q : Bool → Hp → Prop} (h : t σ H fun c H1 => if c = true then Q true H1 else u σ H1 Q) : tOr t u σ H Q := h
theorem q_not {Q : Bool → Hp → Prop} (h : t σ H fun c H1 => Q (!c) H1) : tNot t σ H Q := h
theorem q_andV (h : ta σ H fun x H1 => ∃ c, x = .bl c ∧ if c = true then tb σ H1 Q else Q (.bl false) H1) : tAndV ta tb σ H Q := h
theorem q_orV (h : ta σ H fun x H1 => ∃ c, x = .bl c ∧ if c = true then Q (.bl true) H1 else tb σ H1 Q) : tOrV ta tb σ H Q := h
theorem q_notV (h : ta σ H fun x H1 => ∃ c, x = .bl c ∧ Q (.bl (!c)) H1) : tNotV ta σ H Q := h
theorem q_ifE (h : t σ H fun c H1 => if c = true then ta σ H1 Q else tb σ H1 Q) : tIf t ta tb σ H Q := h
theorem q_chain (h : ta σ H fun x H1 => tb σ H1 fun y H2 => r x y H2 fun z H3 => ∃ k, z = .bl k ∧ (if k = true then tc σ H3 fun w' H4 => r' y w' H4 Q else Q (.bl false) H3)) : tChain r r' ta tb tc σ H Q := h
theorem q_nil {Q : List V → Hp → Prop} (h : Q [] H) : tNil σ H Q := h
theorem q_cons {tr : TA} {Q : List V → Hp → Prop} (h : ta σ H fun x H1 => tr σ H1 fun xs H2 => Q (x :: xs) H2) : tCons ta tr σ H Q := h
theorem q_cb {r : List V → Hp → VK → Prop} {t : TA} (h : t σ H fun vs H1 => r vs H1 Q) : tCB r t σ H Q := h
theorem q_call {sp : Sp} {dvs : List V} {E : XK} {t : TA} (h : t σ H fun vs H1 => sp (vs ++ dvs) H1 Q E) : tCall sp dvs E t σ H Q := h
theorem q_lst {t : TA} (h : t σ H fun xs H1 => xs.length ≤ sizeLine ∧ ∀ p, H1 p = none → Q (.ref p) (upd H1 p (.lst xs))) : tLst t σ H Q := h
theorem q_tup {t : TA} (h : t σ H fun xs H1 => xs.length ≤ sizeLine ∧ ∀ p, H1 p = none → Q (.ref p) (upd H1 p (.tup xs))) : tTup t σ H Q := h
theorem q_new {P : Prop} {n : Nat} (hn : n ≤ 1000) (h : P) : n ≤ sizeLine ∧ P := ⟨Nat.le_trans hn (by decide), h⟩
theorem q_ift (h : A) : if true = true then A else B := iteT h
theorem q_iff (h : B) : if false = true then A else B := iteF h
theorem q_ifd {P : Prop} [Decidable P] (hp : P) (h : A) : if decide P = true then A else B := by rw [decide_eq_true hp]; exact iteT h
theorem q_ifn {P : Prop} [Decidable P] (hp : ¬ P) (h : B) : if decide P = true then A else B := by rw [decide_eq_false hp]; exact iteF h
theorem q_ifs {b : Bool} (h1 : b = true → A) (h2 : b = false → B) : if b = true then A else B := by
  cases b with
  | true => exact iteT (h1 rfl)
  | false => exact iteF (h2 rfl)
theorem q_ifx {P : Prop} [Decidable P] (h1 : P → A) (h2 : ¬ P → B) : if decide P = true then A else B := by
  by_cases h : P
  · rw [decide_eq_true h]; exact iteT (h1 h)
  · rw [decide_eq_false h]; exact iteF (h2 h)
theorem q_fld (h : ta σ H fun x H1 => ∃ a C dx fs v, x = .ref a ∧ H1 a = some (.ins C dx fs) ∧ Cls K C ∧ NoAttr K C f ∧ fs.lookup f = some v ∧ Q v H1) : tFld K ta f σ H Q := h
theorem q_sl {rr : V → Option Int → Option Int → Hp → VK → Prop} {tl th : TO} (h : te σ H fun x H1 => tl σ H1 fun l H2 => th σ H2 fun u H3 => rr x l u H3 Q) : tSl rr te tl th σ H Q := h
theorem q_nopart {Q : Option Int → Hp → Prop} (h : Q none H) : tNoPart σ H Q := h
theorem q_part {Q : Option Int → Hp → Prop} (h : te σ H fun x H1 => ∃ i, x = .int i ∧ Q (some i) H1) : tPart te σ H Q := h
theorem q_i {P : Int → Prop} {i : Int} (h : P i) : ∃ k, V.int i = .int k ∧ P k := ⟨i, rfl, h⟩
theorem q_slL {xs : List V} {lo hi : Option Int} (h : SqL K H p xs) (q : ∀ d, H d = none → Q (.ref d) (upd H d (.lst (cutV xs lo hi)))) : rSlL K (.ref p) lo hi H Q := ⟨p, xs, rfl, h, q⟩
theorem q_slT {xs : List V} {lo hi : Option Int} (h : SqT K H p xs) (hn : ¬ (HT.sIx xs.length 0 lo = 0 ∧ HT.sIx xs.length xs.length hi = xs.length)) (q : ∀ d, H d = none → Q (.ref d) (upd H d (.tup (cutV xs lo hi)))) : rSlT K (.ref p) lo hi H Q := ⟨p, xs, rfl, h, hn, q⟩
theorem q_cat {xs ys : List V} {b : Addr} (h : H p = some (.lst xs)) (h' : H b = some (.lst ys)) (hl : xs.length + ys.length ≤ sizeLine) (q : ∀ d, H d = none → Q (.ref d) (upd H d (.lst (xs ++ ys)))) : rCat (.ref p) (.ref b) H Q := ⟨p, b, xs, ys, rfl, rfl, h, h', hl, q⟩
theorem q_rep {xs : List V} {k : Int} (h : H p = some (.lst xs)) (h1 : -(2 ^ 63) ≤ k) (h2 : k < 2 ^ 63) (hl : xs.length * k.toNat ≤ sizeLine) (q : ∀ d, H d = none → Q (.ref d) (upd H d (.lst (List.replicate k.toNat xs).flatten))) : rRep (.ref p) (.int k) H Q := ⟨p, k, xs, rfl, rfl, h, h1, h2, hl, q⟩
theorem q_append {xs : List V} (h : H p = some (.lst xs)) (hl : xs.length < sizeLine) (q : Q .non (upd H p (.lst (xs ++ [y])))) : rAppend (.ref p) [y] H Q := ⟨p, xs, y, rfl, rfl, h, hl, q⟩
theorem q_bm {T : String} {rr : V → List V → Hp → VK → Prop} {t : TA} (h : to σ H fun x H1 => tyV K T x H1 ∧ t σ H1 fun xs H2 => rr x xs H2 Q) : tBM K T rr to t σ H Q := h
theorem q_tyL {xs : List V} {P : Prop} (h : H p = some (.lst xs)) (q : P) : tyV K "list" (.ref p) H ∧ P := ⟨.inl ⟨rfl, _, SqL.of h⟩, q⟩
theorem q_isB {a b : Bool} (q : Q (.bl (decide (a = b))) H) : rIsB (.bl a) (.bl b) H Q := ⟨a, b, rfl, rfl, q⟩
theorem q_notB {a b : Bool} (q : Q (.bl (!decide (a = b))) H) : rNotB (.bl a) (.bl b) H Q := ⟨a, b, rfl, rfl, q⟩
end
/-! ### the same readings under names -/
def rAddStr : R2 := fun x y H Q => ∃ i j, x = .str i ∧ y = .str j ∧ i.length + j.length ≤ sizeLine ∧ Q (.str (i ++ j)) H
def rLtStr : R2 := fun x y H Q => ∃ i j, x = .str i ∧ y = .str j ∧ Q (.bl (decide (i.cps.toList < j.cps.toList))) H
def rLeStr : R2 := fun x y H Q => ∃ i j, x = .str i ∧ y = .str j ∧ Q (.bl (!decide (j.cps.toList < i.cps.toList))) H
def rInSign : R2 := fun x y H Q => ∃ (c : Nat) (z : Str), x = .str ⟨#[c]⟩ ∧ y = .str z ∧ Q (.bl (decide (c ∈ z.cps.toList))) H
def rIsNon : R2 := fun x y H Q => y = .non ∧ Q (.bl (decide (x = .non))) H
def rNotNon : R2 := fun x y H Q => y = .non ∧ Q (.bl (!decide (x = .non))) H
def rLenA (K : PySem.W.Frag) : List V → Hp → VK → Prop := fun xs H Q => ∃ x n, xs = [x] ∧ LenV K x H n ∧ Q (.int n) H
def rMax2 : List V → Hp → VK → Prop := fun xs H Q => ∃ i j, xs = [.int i, .int j] ∧ Q (.int (if j > i then j else i)) H
def rMin2 : List V → Hp → VK → Prop := fun xs H Q => ∃ i j, xs = [.int i, .int j] ∧ Q (.int (if j < i then j else i)) H
def rIntStr : List V → Hp → VK → Prop := fun xs H Q => ∃ a n, xs = [.str a] ∧ PySem.intText? a = some n ∧ a.length ≤ 640 ∧ Q (.int n) H
section
variable {X : Cx}
theorem op_addStr : OpR X (binaryOp .Add) rAddStr := op_add_str
theorem op_ltStr : OpR X (compareOp .Lt) rLtStr := op_lt_str
theorem op_leStr : OpR X (compareOp .LtE) rLeStr := op_le_str
theorem op_inSign : OpR X (compareOp .In) rInSign := op_in_sign
theorem op_isNon : OpR X (compareOp .Is) rIsNon := op_isN
theorem op_notNon : OpR X (compareOp .IsNot) rNotNon := op_notN
theorem call_lenA : CallR X (.builtin "len") (rLenA X.K) := call_len
theorem call_maxA (hc : X.calm = true) : CallR X (.builtin "max") rMax2 := call_max2 hc
theorem call_minA (hc : X.calm = true) : CallR X (.builtin "min") rMin2 := call_min2 hc
theorem call_intStr : CallR X (.type "int") rIntStr := call_int_str
end
section
variable {K : PySem.W.Frag} {H : Hp} {Q : VK} {x v : V} {p : Addr}
theorem q_addStr {i j : Str} (h : i.length + j.length ≤ sizeLine) (q : Q (.str (i ++ j)) H) : rAddStr (.str i) (.str j) H Q := ⟨i, j, rfl, rfl, h, q⟩
theorem q_ltStr {i j : Str} (q : Q (.bl (decide (i.cps.toList < j.cps.toList))) H) : rLtStr (.str i) (.str j) H Q := ⟨i, j, rfl, rfl, q⟩
theorem q_leStr {i j : Str} (q : Q (.bl (!decide (j.cps.toList < i.cps.toList))) H) : rLeStr (.str i) (.str j) H Q := ⟨i, j, rfl, rfl, q⟩
theorem q_inSign {c : Nat} {z : Str} (q : Q (.bl (decide (c ∈ z.cps.toList))) H) : rInSign (.str ⟨#[c]⟩) (.str z) H Q := ⟨c, z, rfl, rfl, q⟩
theorem q_isNonT (q : Q (.bl true) H) : rIsNon .non .non H Q := ⟨rfl, by rw [decide_eq_true rfl]; exact q⟩
theorem q_isNonF (h : ¬ x = .non) (q : Q (.bl false) H) : rIsNon x .non H Q := ⟨rfl, by rw [decide_eq_false h]; exact q⟩
theorem q_notNonF (q : Q (.bl false) H) : rNotNon .non .non H Q := ⟨rfl, by rw [decide_eq_true rfl]; exact q⟩
theorem q_notNonT (h : ¬ x = .non) (q : Q (.bl true) H) : rNotNon x .non H Q := ⟨rfl, by rw [decide_eq_false h]; exact q⟩
theorem q_lenS {s : Str} (h : s.length ≤ sizeLine) (q : Q (.int (s.length : Nat)) H) : rLenA K [.str s] H Q := ⟨_, _, rfl, ⟨h, rfl⟩, q⟩
theorem q_lenL {xs : List V} (h : SqL K H p xs) (q : Q (.int (xs.length : Nat)) H) : rLenA K [.ref p] H Q := ⟨_, _, rfl, .inl ⟨xs, h, rfl⟩, q⟩
theorem q_lenT {xs : List V} (h : SqT K H p xs) (q : Q (.int (xs.length : Nat)) H) : rLenA K [.ref p] H Q := ⟨_, _, rfl, .inr ⟨xs, h, rfl⟩, q⟩
theorem q_max2 {i j : Int} (q : Q (.int (max i j)) H) : rMax2 [.int i, .int j] H Q := ⟨i, j, rfl, by
  have e : (if j > i then j else i) = max i j := by omega
  rw [e]; exact q⟩
theorem q_min2 {i j : Int} (q : Q (.int (min i j)) H) : rMin2 [.int i, .int j] H Q := ⟨i, j, rfl, by
  have e : (if j < i then j else i) = min i j := by omega
  rw [e]; exact q⟩
theorem q_intStr {a : Str} {n : Int} (h : PySem.intText? a = some n) (hl : a.length ≤ 640) (q : Q (.int n) H) : rIntStr [.str a] H Q := ⟨a, n, rfl, h, hl, q⟩
theorem q_isi {c : V} {t u : Value} {b : Bool} (hc : ClsV c u) (ht : TyX K H x t) (hk : PySem.W.kitOne K t u = some b) (q : Q (.bl b) H) : rIsi K [x, c] H Q := ⟨x, c, t, u, b, rfl, hc, ht, hk, q⟩
end
theorem line_of {n : Nat} (h : n ≤ 16777216) : n ≤ sizeLine := by rw [sizeLine_eq]; exact h
theorem line_lt {n : Nat} (h : n < 16777216) : n < sizeLine := by rw [sizeLine_eq]; exact h
section
variable {K : PySem.W.Frag} {x qual : Str} {params : Arguments} {body : List Stmt} {scope : Scope} {dvs : List V} {f : Addr} {fd : FuncData} {ps : List Str}
/-- f(e, .., k = v, ..): all that have no value by their places are told by their names, in the parameters' order -/
theorem _root_.L2.FunD.kbinds1 (F : FunD K x qual params body scope dvs [] f fd) (n : Nat) (ks : List Str) (hd : dvs ≠ [])
    (h : ∀ (T : Addr) (kV doc pm : Value) (an : Option Addr) (cdv ct : Value) (us its ws : List Value), us.length = n → its.length = dvs.length → ws.length = ks.length →
      ∃ k, bindArgs (PySem.W.fnOf x qual params body scope (.ref T) kV doc pm an cdv ct) ⟨us, ks.zip ws⟩ = seqItems? (.ref T) >>= k ∧ k (some its.toArray) = pure (ps.zip (us ++ ws))) :
    KBn K fd ps n ks (fun us ws => us ++ ws) (fun vs zs => vs ++ zs) := by
  obtain ⟨oc, od, dV, kV, doc, pm, an, cdv, ct, osl, rfl, lk, hcd, hD, hK⟩ := F.ex
  rcases hD with ⟨e, _⟩ | ⟨_, T, o, its, m, rfl, lT, oT, rT⟩
  · exact absurd e hd
  · refine ⟨fun s us ws X l1 l2 => ?_, fun r1 r2 => r1.append r2⟩
    obtain ⟨k, e1, e2⟩ := h T kV doc pm an cdv ct us its ws l1 rT.length.symm l2
    refine BindsTo.of_looks fun M => ?_
    rw [e1]
    exact looks_items X lT oT (.of_pure e2)
end
section
variable {K : PySem.W.Frag} {σ : L2.St} {H : Hp} {Q : VK} {a C : Addr}
theorem q_callN {n m : Nat} {sp : Sp} {gV : List V → List V → List V} {E : XK} {t tk : TA} (h : t σ H fun vs H1 => tk σ H1 fun zs H2 => vs.length = n ∧ zs.length = m ∧ sp (gV vs zs) H2 Q E) : tCallN n m sp gV E t tk σ H Q := h
theorem q_2 {a b c d : Nat} {P : Prop} (h1 : a = b) (h2 : c = d) (h : P) : a = b ∧ c = d ∧ P := ⟨h1, h2, h⟩
theorem q_make {sp : Sp} {dvs : List V} {E : XK} {t : TA} (h : t σ H fun vs H1 => ∀ x dx, H1 x = none → H1 dx = none → dx ≠ x → sp (.ref x :: (vs ++ dvs)) (upd (upd H1 dx (.own x)) x (.ins C dx [])) (fun v H2 => v = .non ∧ Q (.ref x) H2) E) : tMake C sp dvs E t σ H Q := h
theorem q_slS {z : Str} {lo hi : Option Int} (h : z.length ≤ sizeLine) (q : Q (.str (cutS z lo hi)) H) : rSlS (.str z) lo hi H Q := ⟨z, rfl, h, q⟩
end
section
variable {K : PySem.W.Frag} {σ : L2.St} {H : Hp} {D : Ends}
theorem q_for {wi : TI} {g : TG} {tb : TS} (h : wi σ H fun J H1 => ∃ W : Nat → Nat → L2.St → Hp → Prop, (∃ m, W 0 m σ H1) ∧ ∀ i m σ H, W i m σ H →
  (J.stop i H ∧ D.nx σ H) ∨ (J.go i H ∧ ∃ N : L2.St → Hp → Prop, (∀ σ' H', N σ' H' → ∃ m', m' < m ∧ W (i + 1) m' σ' H') ∧ ∀ x H', J.yld i H x H' → g x σ H' fun σ2 H2 => tb { D with nx := N, ct := N, bk := D.nx } σ2 H2)) : tFor wi g tb D σ H := h
theorem q_rng1 {ta : TA} {R : It → Hp → Prop} (h : ta σ H fun vs H1 => ∃ j : Int, vs = [.int j] ∧ -(2 ^ 62) ≤ j ∧ j < 2 ^ 62 ∧ R (Itr 0 j.toNat) H1) : iRng1 ta σ H R := h
theorem q_rng1b {j : Int} {R : Int → Prop} (h1 : -(2 ^ 62) ≤ j) (h2 : j < 2 ^ 62) (h : R j) : ∃ k : Int, [V.int j] = [.int k] ∧ -(2 ^ 62) ≤ k ∧ k < 2 ^ 62 ∧ R k := ⟨j, rfl, h1, h2, h⟩
theorem q_iList {tl : TE} {R : It → Hp → Prop} (h : tl σ H fun x H1 => ∃ a, x = .ref a ∧ (∃ xs, SqL K H1 a xs) ∧ R (Itl K a) H1) : iList K tl σ H R := h
theorem q_iListb {a : Addr} {H : Hp} {xs : List V} {R : Addr → Prop} (h1 : SqL K H a xs) (h : R a) : ∃ b, V.ref a = .ref b ∧ (∃ xs, SqL K H b xs) ∧ R b := ⟨a, rfl, ⟨xs, h1⟩, h⟩
theorem q_iStr {te : TE} {R : It → Hp → Prop} (h : te σ H fun v H1 => ∃ x, v = .str x ∧ R (Its x) H1) : iStr te σ H R := h
theorem q_iStrb {s : Str} {R : Str → Prop} (h : R s) : ∃ x, V.str s = .str x ∧ R x := ⟨s, rfl, h⟩
theorem q_lc {wi : TI} {g : TG} {tt : TT} {te : TE} {vs : List Nat} {Q : VK} (h : wi σ H fun J H1 => ∀ D, H1 D = none → ∃ W : Nat → Nat → Hp → Prop, (∃ m, W 0 m (upd H1 D (.lst []))) ∧ ∀ i m H, W i m H →
  (J.stop i H ∧ Q (.ref D) H) ∨ (J.go i H ∧ ∃ Nx : Hp → Prop, (∀ H', Nx H' → ∃ m', m' < m ∧ W (i + 1) m' H') ∧ ∀ x H', J.yld i H x H' → g x (wipe σ vs) H' fun σ2 H2 => wipe σ2 vs = wipe σ vs ∧ tt σ2 H2 fun b H3 =>
    if b = true then te σ2 H3 fun y H4 => ∃ acc, H4 D = some (.lst acc) ∧ acc.length < sizeLine ∧ Nx (upd H4 D (.lst (acc ++ [y]))) else Nx H3)) : tLc wi g tt te vs σ H Q := h
end

section
variable {σ : L2.St} {H : Hp} {Q : VK} {C : Addr} {m : Str}
theorem q_call0 {sp : Sp} {E : XK} {t : TA} (h : t σ H fun vs H1 => sp vs H1 Q E) : tCall sp [] E t σ H Q := by
  have e : (fun vs H1 => sp (vs ++ []) H1 Q E) = fun vs H1 => sp vs H1 Q E := by
    funext vs H1
    rw [List.append_nil]
  show t σ H fun vs H1 => sp (vs ++ []) H1 Q E
  rw [e]
  exact h
theorem q_make0 {sp : Sp} {E : XK} {t : TA} (h : t σ H fun vs H1 => ∀ x dx, H1 x = none → H1 dx = none → dx ≠ x → sp (.ref x :: vs) (upd (upd H1 dx (.own x)) x (.ins C dx [])) (fun v H2 => v = .non ∧ Q (.ref x) H2) E) : tMake C sp [] E t σ H Q := by
  have e : (fun vs H1 => ∀ x dx, H1 x = none → H1 dx = none → dx ≠ x → sp (.ref x :: (vs ++ [])) (upd (upd H1 dx (.own x)) x (.ins C dx [])) (fun v H2 => v = .non ∧ Q (.ref x) H2) E) = fun vs H1 => ∀ x dx, H1 x = none → H1 dx = none → dx ≠ x → sp (.ref x :: vs) (upd (upd H1 dx (.own x)) x (.ins C dx [])) (fun v H2 => v = .non ∧ Q (.ref x) H2) E := by
    funext vs H1
    rw [List.append_nil]
  show t σ H fun vs H1 => ∀ x dx, H1 x = none → H1 dx = none → dx ≠ x → sp (.ref x :: (vs ++ [])) (upd (upd H1 dx (.own x)) x (.ins C dx [])) (fun v H2 => v = .non ∧ Q (.ref x) H2) E
  rw [e]
  exact h
theorem q_meth0 {sp : Sp} {E : XK} {ta : TE} {t : TA} (h : ta σ H fun x H1 => ∃ a dx fs, x = .ref a ∧ H1 a = some (.ins C dx fs) ∧ fs.lookup m = none ∧ t σ H1 fun vs H2 => sp (x :: vs) H2 Q E) : tMeth C m sp [] E ta t σ H Q := by
  have e : ∀ x, (fun vs H2 => sp (x :: (vs ++ [])) H2 Q E) = fun vs H2 => sp (x :: vs) H2 Q E := fun x => by
    funext vs H1
    rw [List.append_nil]
  show ta σ H fun x H1 => ∃ a dx fs, x = .ref a ∧ H1 a = some (.ins C dx fs) ∧ fs.lookup m = none ∧ t σ H1 fun vs H2 => sp (x :: (vs ++ [])) H2 Q E
  simp only [e]
  exact h
end
/-! ### heaps that grow; comprehensions whose elements change nothing -/
theorem _root_.L2.Same.new {H : Hp} {p : Addr} {o : HO} (h : H p = none) : Same H (upd H p o) := fun b u e => by
  rw [upd_ne (ne_of_none e h)]
  exact e
theorem _root_.L2.Same.snew {H H' : Hp} {p : Addr} {o : HO} (s : Same H H') (h : H p = none) : Same H (upd H' p o) := fun b u e => by
  rw [upd_ne (ne_of_none e h)]
  exact s b u e
theorem _root_.L2.Same.seqT {K : PySem.W.Frag} {H H' : Hp} {a : Addr} {xs : List V} (e : Same H H') (h : SqT K H a xs) : SqT K H' a xs := by
  rcases h with (h | ⟨o, h⟩) | h
  · exact .inl (.inl (e _ _ h))
  · exact .inl (.inr ⟨o, e _ _ h⟩)
  · exact .inr h
theorem wipe_set {σ : L2.St} {i : Nat} {x : Option V} : wipe ((wipe σ [i]).set i x) [i] = wipe σ [i] := by
  show ((σ.set i none).set i x).set i none = σ.set i none
  rw [List.set_set, List.set_set]
theorem lc_grow {J : It} {n : Nat} {G : Hp → Prop} {Y : Nat → Hp → V → Hp → Prop} (w : Walk J n G Y) {g : TG} {te : TE} {vs : List Nat} {σ : L2.St} {H1 : Hp} {D : Addr} {Qd : Hp → Prop} (ys : List V) (hy : ys.length = n) (hn : n ≤ 100000)
    (hG : ∀ H', Same H1 H' → G H') (hD : H1 D = none)
    (he : ∀ k x H2 H' (R : VK), k < n → Same H1 H2 → Y k H2 x H' → (∀ y H4, ys[k]? = some y → Same H2 H4 → R y H4) → g x (wipe σ vs) H' fun σ2 H3 => wipe σ2 vs = wipe σ vs ∧ te σ2 H3 R)
    (hd : ∀ H', Same H1 H' → H' D = some (.lst ys) → Qd H') (gm : ∀ x H' Q Q', (∀ σ H, Q σ H → Q' σ H) → g x (wipe σ vs) H' Q → g x (wipe σ vs) H' Q') :
    ∃ W : Nat → Nat → Hp → Prop, (∃ m, W 0 m (upd H1 D (.lst []))) ∧ ∀ i m H, W i m H →
      (J.stop i H ∧ Qd H) ∨ (J.go i H ∧ ∃ Nx : Hp → Prop, (∀ H', Nx H' → ∃ m', m' < m ∧ W (i + 1) m' H') ∧ ∀ x H', J.yld i H x H' → g x (wipe σ vs) H' fun σ2 H2 => wipe σ2 vs = wipe σ vs ∧ tYes σ2 H2 fun b H3 =>
        if b = true then te σ2 H3 fun y H4 => ∃ acc, H4 D = some (.lst acc) ∧ acc.length < sizeLine ∧ Nx (upd H4 D (.lst (acc ++ [y]))) else Nx H3) := by
  refine lc_it w (fun k H' => Same H1 H' ∧ H' D = some (.lst (ys.take k))) ⟨Same.new hD, by rw [upd_same]; rfl⟩ (fun i H' _ h => hG H' h.1) ?_ ?_
  · rintro k x H2 H' hk ⟨s2, d2⟩ y
    refine gm _ _ _ _ (fun σ2 H3 q => ⟨q.1, by unfold tYes; exact iteT q.2⟩) (he k x H2 H' _ hk s2 y fun v H4 e s4 => ?_)
    have hk' : k < ys.length := by omega
    refine ⟨ys.take k, s4 _ _ d2, ?_, (s2.trans s4).snew hD, ?_⟩
    · rw [List.length_take]
      exact line_lt (by omega)
    · rw [upd_same, List.take_add_one, e]
      rfl
  · rintro H' ⟨s2, d2⟩
    refine hd H' s2 ?_
    rw [d2, List.take_of_length_le (by omega)]
/-- over the signs of a text, each element a function of the sign -/
theorem lc_signs {z : Str} {i : Nat} {te : TE} {σ : L2.St} {H1 : Hp} {D : Addr} {Qd : Hp → Prop} (f : Nat → V) (hn : z.length ≤ 100000) (hD : H1 D = none)
    (he : ∀ c H2 (R : VK), Same H1 H2 → (∀ H4, Same H2 H4 → R (f c) H4) → te ((wipe σ [i]).set i (some (.str ⟨#[c]⟩))) H2 R)
    (hd : ∀ H', Same H1 H' → H' D = some (.lst (z.cps.toList.map f)) → Qd H') :
    ∃ W : Nat → Nat → Hp → Prop, (∃ m, W 0 m (upd H1 D (.lst []))) ∧ ∀ k m H, W k m H →
      ((Its z).stop k H ∧ Qd H) ∨ ((Its z).go k H ∧ ∃ Nx : Hp → Prop, (∀ H', Nx H' → ∃ m', m' < m ∧ W (k + 1) m' H') ∧ ∀ x H', (Its z).yld k H x H' → gName i x (wipe σ [i]) H' fun σ2 H2 => wipe σ2 [i] = wipe σ [i] ∧ tYes σ2 H2 fun b H3 =>
        if b = true then te σ2 H3 fun y H4 => ∃ acc, H4 D = some (.lst acc) ∧ acc.length < sizeLine ∧ Nx (upd H4 D (.lst (acc ++ [y]))) else Nx H3) := by
  refine lc_grow walk_str (z.cps.toList.map f) (by simp) hn (fun _ _ => trivial) hD ?_ hd (fun _ _ _ _ q h => q _ _ h)
  rintro k x H2 H' R hk s2 ⟨rfl, c, hc, rfl⟩ hR
  refine ⟨wipe_set, he c H' R s2 fun H4 s4 => hR _ _ ?_ s4⟩
  rw [List.getElem?_map]
  have e : z.cps.toList[k]? = some c := by simpa using hc
  rw [e]
  rfl
theorem q_ifN {A B : Prop} {b : Bool} (h : if b = true then B else A) : if (!b) = true then A else B := by
  cases b <;> exact h
section
variable {K : PySem.W.Frag}
theorem kt_NoneType_int : PySem.W.kitOne K (.type "NoneType") (.type "int") = some false := kit_ty (by decide +kernel)
theorem kt_NoneType_str : PySem.W.kitOne K (.type "NoneType") (.type "str") = some false := kit_ty (by decide +kernel)
theorem kt_NoneType_bool : PySem.W.kitOne K (.type "NoneType") (.type "bool") = some false := kit_ty (by decide +kernel)
theorem kt_NoneType_list : PySem.W.kitOne K (.type "NoneType") (.type "list") = some false := kit_ty (by decide +kernel)
theorem kt_NoneType_tuple : PySem.W.kitOne K (.type "NoneType") (.type "tuple") = some false := kit_ty (by decide +kernel)
theorem kt_NoneType_dict : PySem.W.kitOne K (.type "NoneType") (.type "dict") = some false := kit_ty (by decide +kernel)
theorem kt_bool_int : PySem.W.kitOne K (.type "bool") (.type "int") = some true := kit_ty (by decide +kernel)
theorem kt_bool_str : PySem.W.kitOne K (.type "bool") (.type "str") = some false := kit_ty (by decide +kernel)
theorem kt_bool_bool : PySem.W.kitOne K (.type "bool") (.type "bool") = some true := kit_ty (by decide +kernel)
theorem kt_bool_list : PySem.W.kitOne K (.type "bool") (.type "list") = some false := kit_ty (by decide +kernel)
theorem kt_bool_tuple : PySem.W.kitOne K (.type "bool") (.type "tuple") = some false := kit_ty (by decide +kernel)
theorem kt_bool_dict : PySem.W.kitOne K (.type "bool") (.type "dict") = some false := kit_ty (by decide +kernel)
theorem kt_int_int : PySem.W.kitOne K (.type "int") (.type "int") = some true := kit_ty (by decide +kernel)
theorem kt_int_str : PySem.W.kitOne K (.type "int") (.type "str") = some false := kit_ty (by decide +kernel)
theorem kt_int_bool : PySem.W.kitOne K (.type "int") (.type "bool") = some false := kit_ty (by decide +kernel)
theorem kt_int_list : PySem.W.kitOne K (.type "int") (.type "list") = some false := kit_ty (by decide +kernel)
theorem kt_int_tuple : PySem.W.kitOne K (.type "int") (.type "tuple") = some false := kit_ty (by decide +kernel)
theorem kt_int_dict : PySem.W.kitOne K (.type "int") (.type "dict") = some false := kit_ty (by decide +kernel)
theorem kt_str_int : PySem.W.kitOne K (.type "str") (.type "int") = some false := kit_ty (by decide +kernel)
theorem kt_str_str : PySem.W.kitOne K (.type "str") (.type "str") = some true := kit_ty (by decide +kernel)
theorem kt_str_bool : PySem.W.kitOne K (.type "str") (.type "bool") = some false := kit_ty (by decide +kernel)
theorem kt_str_list : PySem.W.kitOne K (.type "str") (.type "list") = some false := kit_ty (by decide +kernel)
theorem kt_str_tuple : PySem.W.kitOne K (.type "str") (.type "tuple") = some false := kit_ty (by decide +kernel)
theorem kt_str_dict : PySem.W.kitOne K (.type "str") (.type "dict") = some false := kit_ty (by decide +kernel)
theorem kt_list_int : PySem.W.kitOne K (.type "list") (.type "int") = some false := kit_ty (by decide +kernel)
theorem kt_list_str : PySem.W.kitOne K (.type "list") (.type "str") = some false := kit_ty (by decide +kernel)
theorem kt_list_bool : PySem.W.kitOne K (.type "list") (.type "bool") = some false := kit_ty (by decide +kernel)
theorem kt_list_list : PySem.W.kitOne K (.type "list") (.type "list") = some true := kit_ty (by decide +kernel)
theorem kt_list_tuple : PySem.W.kitOne K (.type "list") (.type "tuple") = some false := kit_ty (by decide +kernel)
theorem kt_list_dict : PySem.W.kitOne K (.type "list") (.type "dict") = some false := kit_ty (by decide +kernel)
theorem kt_tuple_int : PySem.W.kitOne K (.type "tuple") (.type "int") = some false := kit_ty (by decide +kernel)
theorem kt_tuple_str : PySem.W.kitOne K (.type "tuple") (.type "str") = some false := kit_ty (by decide +kernel)
theorem kt_tuple_bool : PySem.W.kitOne K (.type "tuple") (.type "bool") = some false := kit_ty (by decide +kernel)
theorem kt_tuple_list : PySem.W.kitOne K (.type "tuple") (.type "list") = some false := kit_ty (by decide +kernel)
theorem kt_tuple_tuple : PySem.W.kitOne K (.type "tuple") (.type "tuple") = some true := kit_ty (by decide +kernel)
theorem kt_tuple_dict : PySem.W.kitOne K (.type "tuple") (.type "dict") = some false := kit_ty (by decide +kernel)
theorem kt_dict_int : PySem.W.kitOne K (.type "dict") (.type "int") = some false := kit_ty (by decide +kernel)
theorem kt_dict_str : PySem.W.kitOne K (.type "dict") (.type "str") = some false := kit_ty (by decide +kernel)
theorem kt_dict_bool : PySem.W.kitOne K (.type "dict") (.type "bool") = some false := kit_ty (by decide +kernel)
theorem kt_dict_list : PySem.W.kitOne K (.type "dict") (.type "list") = some false := kit_ty (by decide +kernel)
theorem kt_dict_tuple : PySem.W.kitOne K (.type "dict") (.type "tuple") = some false := kit_ty (by decide +kernel)
theorem kt_dict_dict : PySem.W.kitOne K (.type "dict") (.type "dict") = some true := kit_ty (by decide +kernel)
end
theorem R_of {α : Type} {R : α → Hp → Prop} {v v' : α} {H : Hp} (h : R v H) (e : v = v') : R v' H := e ▸ h
section
variable {K : PySem.W.Frag} {H : Hp} {Q : VK}
theorem q_leStr1 {i j : Str} {a b : Nat} (ha : i.cps.toList = [a]) (hb : j.cps.toList = [b]) (q : Q (.bl (decide (a ≤ b))) H) : rLeStr (.str i) (.str j) H Q := ⟨i, j, rfl, rfl, by
  rw [ha, hb]
  have e : (!decide ([b] < [a])) = decide (a ≤ b) := by
    by_cases h : a ≤ b
    · rw [decide_eq_true h, decide_eq_false]
      · rfl
      · intro z
        have := List.cons_lt_cons_iff.mp z
        simp at this
        omega
    · rw [decide_eq_false h, decide_eq_true]
      · rfl
      · exact List.cons_lt_cons_iff.mpr (.inl (by omega))
  rw [e]
  exact q⟩
theorem q_all {a : Addr} {bs : List Bool} (h : SqL K H a (bs.map V.bl)) (q : Q (.bl (bs.all id)) H) : rAll K [.ref a] H Q := ⟨a, bs, rfl, h, q⟩
theorem q_any {a : Addr} {bs : List Bool} (h : SqL K H a (bs.map V.bl)) (q : Q (.bl (bs.any id)) H) : rAny K [.ref a] H Q := ⟨a, bs, rfl, h, q⟩
end
theorem lc_signsB {z : Str} {i : Nat} {te : TE} {σ : L2.St} {H1 : Hp} {D : Addr} {Qd : Hp → Prop} (f : Nat → Bool) (hn : z.length ≤ 100000) (hD : H1 D = none)
    (he : ∀ c H2 (R : VK), Same H1 H2 → (∀ H4, Same H2 H4 → R (.bl (f c)) H4) → te ((wipe σ [i]).set i (some (.str ⟨#[c]⟩))) H2 R)
    (hd : ∀ H', Same H1 H' → H' D = some (.lst ((z.cps.toList.map f).map V.bl)) → Qd H') :
    ∃ W : Nat → Nat → Hp → Prop, (∃ m, W 0 m (upd H1 D (.lst []))) ∧ ∀ k m H, W k m H →
      ((Its z).stop k H ∧ Qd H) ∨ ((Its z).go k H ∧ ∃ Nx : Hp → Prop, (∀ H', Nx H' → ∃ m', m' < m ∧ W (k + 1) m' H') ∧ ∀ x H', (Its z).yld k H x H' → gName i x (wipe σ [i]) H' fun σ2 H2 => wipe σ2 [i] = wipe σ [i] ∧ tYes σ2 H2 fun b H3 =>
        if b = true then te σ2 H3 fun y H4 => ∃ acc, H4 D = some (.lst acc) ∧ acc.length < sizeLine ∧ Nx (upd H4 D (.lst (acc ++ [y]))) else Nx H3) :=
  lc_signs (fun c => .bl (f c)) hn hD he fun H' s e => hd H' s (by rw [e, List.map_map]; rfl)
theorem at_ints (xs : List Int) (P : Int → Prop) {i : Int} (hP : ∀ x ∈ xs, P x) (h0 : 0 ≤ i) (h1 : i < xs.length) : ∃ m, atI (xs.map V.int) i = some (V.int m) ∧ P m := by
  obtain ⟨j, rfl⟩ := Int.eq_ofNat_of_zero_le h0
  have hj : j < xs.length := by omega
  refine ⟨xs[j], atI_nat (by simp [hj]), hP _ (List.getElem_mem hj)⟩
theorem at_ex {α : Type} {xs : List α} {i : Int} (h0 : 0 ≤ i) (h1 : i < xs.length) : ∃ c, atI xs i = some c := by
  obtain ⟨j, rfl⟩ := Int.eq_ofNat_of_zero_le h0
  have hj : j < xs.length := by omega
  exact ⟨xs[j], atI_nat (by simp [hj])⟩
section
variable {K : PySem.W.Frag} {H : Hp} {Q : VK} {x y : V}
theorem q_eqD {d e : PyData} (hd : Dp K H x d) (he : Dp K H y e) (sd : SeqAt.shaped d = true) (se : SeqAt.shaped e = true) (q : Q (.bl (PyData.eqv d e)) H) : rEqD K x y H Q := ⟨d, e, hd, he, sd, se, q⟩
theorem q_neD {d e : PyData} (hd : Dp K H x d) (he : Dp K H y e) (sd : SeqAt.shaped d = true) (se : SeqAt.shaped e = true) (q : Q (.bl (!PyData.eqv d e)) H) : rNeD K x y H Q := ⟨d, e, hd, he, sd, se, q⟩
end
theorem cs_0 : (Str.ofString "0").cps.toList = [48] := by decide +kernel
theorem cs_9 : (Str.ofString "9").cps.toList = [57] := by decide +kernel
theorem cs_a : (Str.ofString "a").cps.toList = [97] := by decide +kernel
theorem cs_z : (Str.ofString "z").cps.toList = [122] := by decide +kernel
theorem str_one {c d : Nat} {s : Str} (h : s.cps.toList = [d]) : ((⟨#[c]⟩ : Str) = s) ↔ c = d := by
  constructor
  · intro e
    rw [← e] at h
    simpa using h
  · intro e
    subst e
    obtain ⟨l⟩ := s
    congr 1
    exact Array.ext' h.symm
theorem str_len (s : Str) : s.cps.toList.length = s.length := Array.length_toList
theorem in_az (c : Nat) : decide (c ∈ (Str.ofString "abcdefghijklmnopqrstuvwxyz").cps.toList) = (decide (97 ≤ c) && decide (c ≤ 122)) := by
  have e : (Str.ofString "abcdefghijklmnopqrstuvwxyz").cps.toList = List.range' 97 26 := by decide +kernel
  rw [e]
  by_cases h : c ∈ List.range' 97 26
  · rw [decide_eq_true h]
    have := List.mem_range'_1.mp h
    simp
    omega
  · rw [decide_eq_false h]
    have h' : ¬ (97 ≤ c ∧ c < 97 + 26) := fun z => h (List.mem_range'_1.mpr z)
    symm
    simp
    omega
theorem in_09 (c : Nat) : decide (c ∈ (Str.ofString "0123456789").cps.toList) = (decide (48 ≤ c) && decide (c ≤ 57)) := by
  have e : (Str.ofString "0123456789").cps.toList = List.range' 48 10 := by decide +kernel
  rw [e]
  by_cases h : c ∈ List.range' 48 10
  · rw [decide_eq_true h]
    have := List.mem_range'_1.mp h
    simp
    omega
  · rw [decide_eq_false h]
    have h' : ¬ (48 ≤ c ∧ c < 48 + 10) := fun z => h (List.mem_range'_1.mpr z)
    symm
    simp
    omega
theorem len_pos {s : Str} (h : ¬ s = Str.ofString "") : 0 < s.length := by
  rcases Nat.eq_zero_or_pos s.length with e | e
  · exact absurd (by
      obtain ⟨l⟩ := s
      have : l = #[] := Array.eq_empty_of_size_eq_zero e
      rw [this]; rfl) h
  · exact e
/-! ### the rules that read the written part, with it named (a comprehension's block has the same) -/
def rListOf (K : PySem.W.Frag) : List V → Hp → VK → Prop := fun xs H Q => ∃ p ys, xs = [.ref p] ∧ (SqL K H p ys ∨ SqT K H p ys) ∧ ∀ l, H l = none → Q (.ref l) (upd H l (.lst ys))
def rTupleOf (K : PySem.W.Frag) : List V → Hp → VK → Prop := fun xs H Q => ∃ p ys, xs = [.ref p] ∧ ((SqL K H p ys ∧ ∀ l, H l = none → Q (.ref l) (upd H l (.tup ys))) ∨ (SqT K H p ys ∧ Q (.ref p) H))
section
variable {X : Cx} {K : PySem.W.Frag}
theorem kx_isi (hK : X.K = K) : CallR X (.builtin "isinstance") (rIsi K) := by subst hK; exact call_isi
theorem kx_isiT (hK : X.K = K) : CallR X (.builtin "isinstance") (rIsiT K) := by subst hK; exact call_isiT
theorem kx_len (hK : X.K = K) : CallR X (.builtin "len") (rLenA K) := by subst hK; exact call_lenA
theorem kx_all (hK : X.K = K) (hc : X.calm = true) : CallR X (.builtin "all") (rAll K) := by subst hK; exact cr_all hc
theorem kx_any (hK : X.K = K) (hc : X.calm = true) : CallR X (.builtin "any") (rAny K) := by subst hK; exact cr_any hc
theorem kx_sum (hK : X.K = K) (hc : X.calm = true) : CallR X (.builtin "sum") (rSum K) := by subst hK; exact cr_sum hc
theorem kx_max (hK : X.K = K) (hc : X.calm = true) : CallR X (.builtin "max") (rMax K) := by subst hK; exact cr_max hc
theorem kx_min (hK : X.K = K) (hc : X.calm = true) : CallR X (.builtin "min") (rMin K) := by subst hK; exact cr_min hc
theorem kx_list (hK : X.K = K) : CallR X (.type "list") (rListOf K) := by subst hK; exact call_list_of
theorem kx_tuple (hK : X.K = K) : CallR X (.type "tuple") (rTupleOf K) := by subst hK; exact call_tuple_of
theorem ko_eqD (hK : X.K = K) (hu : X.A.units + 64 < cLine) : OpR X (compareOp .Eq) (rEqD K) := by subst hK; exact op_eqD hu
theorem ko_neD (hK : X.K = K) (hu : X.A.units + 64 < cLine) : OpR X (compareOp .NotEq) (rNeD K) := by subst hK; exact op_neD hu
theorem ko_in (hK : X.K = K) : OpR X (compareOp .In) (rIn K false) := by subst hK; exact op_in_seq
theorem ko_notIn (hK : X.K = K) : OpR X (compareOp .NotIn) (rIn K true) := by subst hK; exact op_notIn_seq
theorem ki_list (hK : X.K = K) : IxR X (rIxL K) := by subst hK; exact ix_list
theorem ki_tup (hK : X.K = K) : IxR X (rIxT K) := by subst hK; exact ix_tup
theorem ks_list (hK : X.K = K) : SlR X (rSlL K) := by subst hK; exact sl_list
theorem ks_tup (hK : X.K = K) : SlR X (rSlT K) := by subst hK; exact sl_tup
theorem kp_fld {e : Expr} {ta : TE} {f : Str} {pos : Pos} (hK : X.K = K) (he : PE X e ta) (hb : attributeBase e f X.env (eval e X.env) = eval e X.env) : PE X (.Attribute e f pos) (tFld K ta f) := by subst hK; exact pe_fld he hb
theorem kpi_list {tg e : Expr} {tl : TE} (hK : X.K = K) (he : PE X e tl) : PI X tg e (iList K tl) := by subst hK; exact pi_list he
theorem kpi_tup {tg e : Expr} {tl : TE} (hK : X.K = K) (he : PE X e tl) : PI X tg e (iTup K tl) := by subst hK; exact pi_tup he
end
section
variable {K : PySem.W.Frag} {H : Hp} {Q : VK} {p : Addr}
theorem q_listL {xs : List V} (h : SqL K H p xs) (q : ∀ l, H l = none → Q (.ref l) (upd H l (.lst xs))) : rListOf K [.ref p] H Q := ⟨p, xs, rfl, .inl h, q⟩
theorem q_listT {xs : List V} (h : SqT K H p xs) (q : ∀ l, H l = none → Q (.ref l) (upd H l (.lst xs))) : rListOf K [.ref p] H Q := ⟨p, xs, rfl, .inr h, q⟩
theorem q_tupleL {xs : List V} (h : SqL K H p xs) (q : ∀ l, H l = none → Q (.ref l) (upd H l (.tup xs))) : rTupleOf K [.ref p] H Q := ⟨p, xs, rfl, .inl ⟨h, q⟩⟩
theorem q_tupleT {xs : List V} (h : SqT K H p xs) (q : Q (.ref p) H) : rTupleOf K [.ref p] H Q := ⟨p, xs, rfl, .inr ⟨h, q⟩⟩
theorem q_sum {ns : List Int} (h : SqL K H p (ns.map V.int)) (q : Q (.int ns.sum) H) : rSum K [.ref p] H Q := ⟨p, ns, rfl, h, q⟩
end
section
variable {α : Type} {a b c d e : α} {xs : List α}
theorem at0 : atI (a :: xs) 0 = some a := atI_nat (j := 0) rfl
theorem at1 : atI (a :: b :: xs) 1 = some b := atI_nat (j := 1) rfl
theorem at2 : atI (a :: b :: c :: xs) 2 = some c := atI_nat (j := 2) rfl
theorem at3 : atI (a :: b :: c :: d :: xs) 3 = some d := atI_nat (j := 3) rfl
theorem at4 : atI (a :: b :: c :: d :: e :: xs) 4 = some e := atI_nat (j := 4) rfl
end
/-- forget how the heap came to be: what is known of it goes on -/
theorem abs_q {α : Type} {R : Hp → α → Prop} {H : Hp} {Q : α} (F : Hp → Prop) (h : F H) (k : ∀ H', F H' → R H' Q) : R H Q := k H h
theorem abs_s {R : Hp → Prop} {H : Hp} (F : Hp → Prop) (h : F H) (k : ∀ H', F H' → R H') : R H := k H h
section
variable {K : PySem.W.Frag} {H : Hp} {Q : VK} {x y : V}
theorem q_eqDt {d e : PyData} (hd : Dp K H x d) (he : Dp K H y e) (sd : SeqAt.shaped d = true) (se : SeqAt.shaped e = true) (h : PyData.eqv d e = true) (q : Q (.bl true) H) : rEqD K x y H Q := ⟨d, e, hd, he, sd, se, by rw [h]; exact q⟩
theorem q_neDt {d e : PyData} (hd : Dp K H x d) (he : Dp K H y e) (sd : SeqAt.shaped d = true) (se : SeqAt.shaped e = true) (h : PyData.eqv d e = true) (q : Q (.bl false) H) : rNeD K x y H Q := ⟨d, e, hd, he, sd, se, by rw [h]; exact q⟩
end
/-- over a list that stays, each element a function of the item -/
theorem lc_items {K : PySem.W.Frag} {a : Addr} {xs : List V} {i : Nat} {te : TE} {σ : L2.St} {H1 : Hp} {D : Addr} {Qd : Hp → Prop} (f : V → V) (hl : SqL K H1 a xs) (hn : xs.length ≤ 100000) (hD : H1 D = none)
    (he : ∀ x ∈ xs, ∀ H2 (R : VK), Same H1 H2 → (∀ H4, Same H2 H4 → R (f x) H4) → te ((wipe σ [i]).set i (some x)) H2 R)
    (hd : ∀ H', Same H1 H' → H' D = some (.lst (xs.map f)) → Qd H') :
    ∃ W : Nat → Nat → Hp → Prop, (∃ m, W 0 m (upd H1 D (.lst []))) ∧ ∀ k m H, W k m H →
      ((Itl K a).stop k H ∧ Qd H) ∨ ((Itl K a).go k H ∧ ∃ Nx : Hp → Prop, (∀ H', Nx H' → ∃ m', m' < m ∧ W (k + 1) m' H') ∧ ∀ x H', (Itl K a).yld k H x H' → gName i x (wipe σ [i]) H' fun σ2 H2 => wipe σ2 [i] = wipe σ [i] ∧ tYes σ2 H2 fun b H3 =>
        if b = true then te σ2 H3 fun y H4 => ∃ acc, H4 D = some (.lst acc) ∧ acc.length < sizeLine ∧ Nx (upd H4 D (.lst (acc ++ [y]))) else Nx H3) := by
  refine lc_grow walk_list (xs.map f) (by simp) hn (fun _ s => s.seq hl) hD ?_ hd (fun _ _ _ _ q h => q _ _ h)
  rintro k x H2 H' R hk s2 ⟨rfl, hx⟩ hR
  refine ⟨wipe_set, he x (List.mem_of_getElem? hx) H' R s2 fun H4 s4 => hR _ _ ?_ s4⟩
  rw [List.getElem?_map, hx]
  rfl
theorem lc_itemsB {K : PySem.W.Frag} {a : Addr} {xs : List V} {i : Nat} {te : TE} {σ : L2.St} {H1 : Hp} {D : Addr} {Qd : Hp → Prop} (f : V → Bool) (hl : SqL K H1 a xs) (hn : xs.length ≤ 100000) (hD : H1 D = none)
    (he : ∀ x ∈ xs, ∀ H2 (R : VK), Same H1 H2 → (∀ H4, Same H2 H4 → R (.bl (f x)) H4) → te ((wipe σ [i]).set i (some x)) H2 R)
    (hd : ∀ H', Same H1 H' → H' D = some (.lst ((xs.map f).map V.bl)) → Qd H') :
    ∃ W : Nat → Nat → Hp → Prop, (∃ m, W 0 m (upd H1 D (.lst []))) ∧ ∀ k m H, W k m H →
      ((Itl K a).stop k H ∧ Qd H) ∨ ((Itl K a).go k H ∧ ∃ Nx : Hp → Prop, (∀ H', Nx H' → ∃ m', m' < m ∧ W (k + 1) m' H') ∧ ∀ x H', (Itl K a).yld k H x H' → gName i x (wipe σ [i]) H' fun σ2 H2 => wipe σ2 [i] = wipe σ [i] ∧ tYes σ2 H2 fun b H3 =>
        if b = true then te σ2 H3 fun y H4 => ∃ acc, H4 D = some (.lst acc) ∧ acc.length < sizeLine ∧ Nx (upd H4 D (.lst (acc ++ [y]))) else Nx H3) :=
  lc_items (fun x => .bl (f x)) hl hn hD he fun H' s e => hd H' s (by rw [e, List.map_map]; rfl)
section
variable {H : Hp} {Q : VK} {a b : Bool} {A B : Prop}
theorem q_isT (q : Q (.bl a) H) : rIsB (.bl a) (.bl true) H Q := ⟨a, true, rfl, rfl, by have e : decide (a = true) = a := by cases a <;> rfl
                                                                                        rw [e]; exact q⟩
theorem q_isF (q : Q (.bl (!a)) H) : rIsB (.bl a) (.bl false) H Q := ⟨a, false, rfl, rfl, by have e : decide (a = false) = !a := by cases a <;> rfl
                                                                                             rw [e]; exact q⟩
theorem q_notT (q : Q (.bl (!a)) H) : rNotB (.bl a) (.bl true) H Q := ⟨a, true, rfl, rfl, by have e : (!decide (a = true)) = !a := by cases a <;> rfl
                                                                                             rw [e]; exact q⟩
theorem q_notF (q : Q (.bl a) H) : rNotB (.bl a) (.bl false) H Q := ⟨a, false, rfl, rfl, by have e : (!decide (a = false)) = a := by cases a <;> rfl
                                                                                            rw [e]; exact q⟩
theorem q_ifA (h : if a = true then (if b = true then A else B) else B) : if (a && b) = true then A else B := by
  cases a <;> cases b <;> exact h
theorem q_ifO (h : if a = true then A else (if b = true then A else B)) : if (a || b) = true then A else B := by
  cases a <;> cases b <;> exact h
end
/-- all but the object at p stands as it stood -/
def Fr1 (p : Addr) (H H' : Hp) : Prop := ∀ b o, b ≠ p → H b = some o → H' b = some o
theorem fr1_at {p b : Addr} {H H' : Hp} {o : HO} (f : Fr1 p H H') (n : b ≠ p) (h : H b = some o) : H' b = some o := f b o n h
theorem same_at {b : Addr} {H H' : Hp} {o : HO} (s : Same H H') (h : H b = some o) : H' b = some o := s b o h
section
variable {K : PySem.W.Frag} {σ : L2.St} {H H' : Hp} {Q : VK} {x : V} {t : Value} {p : Addr}
theorem q_dnewK (h : ∀ p, H p = none → Q (.ref p) (upd H p (.dK []))) : tDNewK σ H Q := h
theorem q_disp {trs : List (TE × TE)} (h : ∀ p, H p = none → tPairs trs σ (upd H p (.dK [])) fun ps H2 => H2 p = some (.dK []) ∧ ∃ kvs : List (Key × V), ps = kvs.map (fun kv => (kV kv.1, kv.2)) ∧ kvs.length ≤ 15 ∧ Q (.ref p) (upd H2 p (.dK (mergeK [] kvs)))) : tDisp trs σ H Q := h
theorem q_pairs0 {Q : List (V × V) → Hp → Prop} (h : Q [] H) : tPairs [] σ H Q := h
theorem q_pairs {tk tv : TE} {r : List (TE × TE)} {Q : List (V × V) → Hp → Prop} (h : tk σ H fun x H1 => tv σ H1 fun y H2 => tPairs r σ H2 fun ps H3 => Q ((x, y) :: ps) H3) : tPairs ((tk, tv) :: r) σ H Q := h
theorem q_kvs {ps : List (V × V)} {P : List (Key × V) → Prop} (kvs : List (Key × V)) (h : H p = some (.dK [])) (e : ps = kvs.map fun kv => (kV kv.1, kv.2)) (hl : kvs.length ≤ 15) (q : P kvs) : H p = some (.dK []) ∧ ∃ kvs : List (Key × V), ps = kvs.map (fun kv => (kV kv.1, kv.2)) ∧ kvs.length ≤ 15 ∧ P kvs := ⟨h, kvs, e, hl, q⟩
theorem q_isiT {tp : Addr} {cs : List V} {us : List Value} {b : Bool} (h : H tp = some (.tup cs)) (hp : Paired ClsV cs us) (ht : TyX K H x t) (hk : PySem.W.kitAny K t us = some b) (q : Q (.bl b) H) : rIsiT K [x, .ref tp] H Q := ⟨x, tp, cs, t, us, b, rfl, h, hp, ht, hk, q⟩
theorem _root_.L2.TyX.mono (h : TyX K H x t) (s : Same H H') : TyX K H' x t := by
  cases h with
  | base h =>
    refine .base ?_
    cases h with
    | non => exact .non
    | bl y => exact .bl y
    | int i => exact .int i
    | str y => exact .str y
    | flt y => exact .flt y
    | lst e => exact .lst (s _ _ e)
    | frz e => exact .frz (s _ _ e)
    | tup e => exact .tup (s _ _ e)
    | dK e => exact .dK (s _ _ e)
    | dT e => exact .dT (s _ _ e)
    | ins e cl ha hn htk hm => exact .ins (s _ _ e) cl ha hn htk hm
  | byt y => exact .byt y
  | set e => exact .set (s _ _ e)
  | kList e c => exact .kList e c
  | kTuple e c => exact .kTuple e c
  | kDict e c => exact .kDict e c
  | fTuple e => exact .fTuple (s _ _ e)
  | fDict e => exact .fDict (s _ _ e)
end
section
variable {K : PySem.W.Frag} {t c : Value} {r : List Value} {b : Bool}
theorem ka_nil : PySem.W.kitAny K t [] = some false := rfl
theorem ka_t (h : PySem.W.kitOne K t c = some true) : PySem.W.kitAny K t (c :: r) = some true := by
  unfold PySem.W.kitAny
  rw [h]
theorem ka_f (h : PySem.W.kitOne K t c = some false) (h2 : PySem.W.kitAny K t r = some b) : PySem.W.kitAny K t (c :: r) = some b := by
  unfold PySem.W.kitAny
  rw [h]
  exact h2
end
theorem upd_free {H : Hp} {a b : Addr} {o : HO} (e : upd H a o b = none) : H b = none := by
  unfold upd at e
  split at e
  · cases e
  · exact e
section
variable {K : PySem.W.Frag} {σ : L2.St} {H : Hp} {Q : VK} {D : Ends} {ta tv : TE} {f g : Str} {a C dx : Addr} {fs : List (Str × V)} {v y : V}
theorem q_sfld (h : tv σ H fun y H1 => ta σ H1 fun x H2 => ∃ a C dx fs, x = .ref a ∧ H2 a = some (.ins C dx fs) ∧ Cls K C ∧ NoAttr K C f ∧ fs.length < 1000 ∧ D.nx σ (upd H2 a (.ins C dx (putF f y fs)))) : sFld K ta tv f D σ H := h
theorem q_sfldb {P : Addr → Addr → Addr → List (Str × V) → Prop} (h1 : H a = some (.ins C dx fs)) (hc : Cls K C) (hn : NoAttr K C f) (hl : fs.length < 1000) (h : P a C dx fs) : ∃ b C dx fs, V.ref a = .ref b ∧ H b = some (.ins C dx fs) ∧ Cls K C ∧ NoAttr K C f ∧ fs.length < 1000 ∧ P b C dx fs := ⟨a, C, dx, fs, rfl, h1, hc, hn, hl, h⟩
theorem q_fldb (h1 : H a = some (.ins C dx fs)) (hc : Cls K C) (hn : NoAttr K C f) (hl : fs.lookup f = some v) (h : Q v H) : ∃ b C dx fs v, V.ref a = .ref b ∧ H b = some (.ins C dx fs) ∧ Cls K C ∧ NoAttr K C f ∧ fs.lookup f = some v ∧ Q v H := ⟨a, C, dx, fs, v, rfl, h1, hc, hn, hl, h⟩
theorem lu_hd : List.lookup f ((f, v) :: fs) = some v := by simp [List.lookup]
theorem lu_tl (h : ¬ f = g) : List.lookup f ((g, y) :: fs) = List.lookup f fs := by
  have e : (f == g) = false := by simpa using h
  simp [List.lookup, e]
end
/-- items that are ints from 0 on -/
def NN (xs : List V) : Prop := ∀ x ∈ xs, ∃ n : Int, x = .int n ∧ 0 ≤ n
theorem NN.nil : NN [] := fun _ h => by cases h
theorem NN.cons {n : Int} {xs : List V} (h : 0 ≤ n) (t : NN xs) : NN (.int n :: xs) := fun x hx => by
  rcases List.mem_cons.mp hx with rfl | hx
  · exact ⟨n, rfl, h⟩
  · exact t x hx
theorem NN.of {ns : List Int} (h : ∀ n ∈ ns, 0 ≤ n) : NN (ns.map V.int) := fun x hx => by
  obtain ⟨n, hm, rfl⟩ := List.mem_map.mp hx
  exact ⟨n, rfl, h n hm⟩
theorem set_self {σ : L2.St} {i : Nat} {v : Option V} (h : σ[i]? = some v) : σ.set i v = σ := by
  obtain ⟨hi, e⟩ := List.getElem?_eq_some_iff.mp h
  rw [← e]
  exact List.set_getElem_self hi
/-- a loop over a list whose turns store nothing but its name, and let the heap grow -/
theorem for_grow {K : PySem.W.Frag} {a : Addr} {xs : List V} {i : Nat} {tb : TS} {D : Ends} {σ : L2.St} {H : Hp} {v0 : Option V} (hl : SqL K H a xs) (hi : σ[i]? = some v0)
    (hb : ∀ x ∈ xs, ∀ H2, Same H H2 → ∀ N : L2.St → Hp → Prop, (∀ H3, Same H2 H3 → N (σ.set i (some x)) H3) → tb { D with nx := N, ct := N, bk := D.nx } (σ.set i (some x)) H2)
    (hd : ∀ v H', Same H H' → D.nx (σ.set i v) H') :
    ∃ W : Nat → Nat → L2.St → Hp → Prop, (∃ m, W 0 m σ H) ∧ ∀ k m σ H, W k m σ H →
      ((Itl K a).stop k H ∧ D.nx σ H) ∨ ((Itl K a).go k H ∧ ∃ N : L2.St → Hp → Prop, (∀ σ' H', N σ' H' → ∃ m', m' < m ∧ W (k + 1) m' σ' H') ∧ ∀ x H', (Itl K a).yld k H x H' → gName i x σ H' fun σ2 H2 => tb { D with nx := N, ct := N, bk := D.nx } σ2 H2) := by
  refine for_list (K := K) (a := a) (xs := xs) (fun k σ' H' => (∃ v, σ' = σ.set i v) ∧ Same H H') ⟨⟨v0, (set_self hi).symm⟩, Same.refl H⟩ (fun k σ' H' _ h => h.2.seq hl) ?_ ?_
  · rintro k x σ' H' hx ⟨⟨v, rfl⟩, s⟩
    show tb _ ((σ.set i v).set i (some x)) H'
    rw [List.set_set]
    exact hb x (List.mem_of_getElem? hx) H' s _ fun H3 s3 => ⟨⟨some x, rfl⟩, s.trans s3⟩
  · rintro σ' H' ⟨⟨v, rfl⟩, s⟩
    exact hd v H' s
theorem q_nn {P : Prop} (h : P) : V.non = V.non ∧ P := ⟨rfl, h⟩
theorem _root_.L2.Same.fr1 {H H1 H2 : Hp} {p : Addr} (s : Same H H1) (f : Fr1 p H1 H2) (h : H p = none) : Same H H2 := fun b o e => f b o (ne_of_none e h) (s b o e)
theorem cutV_mem {xs : List V} {lo hi : Option Int} {x : V} (h : x ∈ cutV xs lo hi) : x ∈ xs := List.mem_of_mem_drop (List.mem_of_mem_take h)
theorem Fr1.refl {p : Addr} {H : Hp} : Fr1 p H H := fun _ _ _ e => e
theorem Fr1.upd {p : Addr} {H H' : Hp} {o : HO} (f : Fr1 p H H') : Fr1 p H (upd H' p o) := fun b u n e => by
  rw [upd_ne n]
  exact f b u n e
theorem kit_sub {K : PySem.W.Frag} {C : Addr} {T : String} {b : Bool} (h0 : PySem.W.kitMeta T = true) (h : PySem.W.subIn K (.ref C) (.type T) = some b) : PySem.W.kitOne K (.ref C) (.type T) = some b := by
  have e : (Value.ref C == Value.type T) = false := rfl
  unfold PySem.W.kitOne
  rw [e, if_neg (by decide)]
  show (if PySem.W.kitMeta T = true then _ else _) = _
  rw [if_pos h0]
  exact h
/-- the same, with a word about the heap that the turns keep, in place of the heap itself -/
theorem for_growF {K : PySem.W.Frag} {a : Addr} {xs : List V} {i : Nat} {tb : TS} {D : Ends} {σ : L2.St} {H : Hp} {v0 : Option V} (F : Hp → Prop) (hF : F H) (hl : ∀ H1, F H1 → SqL K H1 a xs) (hi : σ[i]? = some v0)
    (hb : ∀ x ∈ xs, ∀ H2, F H2 → ∀ N : L2.St → Hp → Prop, (∀ H3, F H3 → N (σ.set i (some x)) H3) → tb { D with nx := N, ct := N, bk := D.nx } (σ.set i (some x)) H2)
    (hd : ∀ v H', F H' → D.nx (σ.set i v) H') :
    ∃ W : Nat → Nat → L2.St → Hp → Prop, (∃ m, W 0 m σ H) ∧ ∀ k m σ H, W k m σ H →
      ((Itl K a).stop k H ∧ D.nx σ H) ∨ ((Itl K a).go k H ∧ ∃ N : L2.St → Hp → Prop, (∀ σ' H', N σ' H' → ∃ m', m' < m ∧ W (k + 1) m' σ' H') ∧ ∀ x H', (Itl K a).yld k H x H' → gName i x σ H' fun σ2 H2 => tb { D with nx := N, ct := N, bk := D.nx } σ2 H2) := by
  refine for_list (K := K) (a := a) (xs := xs) (fun k σ' H' => (∃ v, σ' = σ.set i v) ∧ F H') ⟨⟨v0, (set_self hi).symm⟩, hF⟩ (fun k σ' H' _ h => hl H' h.2) ?_ ?_
  · rintro k x σ' H' hx ⟨⟨v, rfl⟩, s⟩
    show tb _ ((σ.set i v).set i (some x)) H'
    rw [List.set_set]
    exact hb x (List.mem_of_getElem? hx) H' s _ fun H3 s3 => ⟨⟨some x, rfl⟩, s3⟩
  · rintro σ' H' ⟨⟨v, rfl⟩, s⟩
    exact hd v H' s
theorem at_strs (xs : List Str) (P : Str → Prop) {i : Int} (hP : ∀ x ∈ xs, P x) (h0 : 0 ≤ i) (h1 : i < xs.length) : ∃ m, atI (xs.map V.str) i = some (V.str m) ∧ P m := by
  obtain ⟨j, rfl⟩ := Int.eq_ofNat_of_zero_le h0
  have hj : j < xs.length := by omega
  refine ⟨xs[j], atI_nat (by simp [hj]), hP _ (List.getElem_mem hj)⟩

/-! ### readings of the words for exceptions, own objects, comprehensions of any walk -/
section
variable {σ : L2.St} {H : Hp} {Q : VK} {D : Ends} {C a dx : Addr} {m f : Str} {fs : List (Str × V)} {E : L2.St → XK} {sp : Sp} {te ta : TE} {t : TA}
theorem q_callSD (h : t σ H fun vs H1 => sp vs H1 Q (E σ)) : tCallSD sp [] E t σ H Q := by
  have e : (fun vs H1 => sp (vs ++ []) H1 Q (E σ)) = fun vs H1 => sp vs H1 Q (E σ) := by
    funext vs H1
    rw [List.append_nil]
  show t σ H fun vs H1 => sp (vs ++ []) H1 Q (E σ)
  rw [e]
  exact h
theorem q_callSDd {dvs : List V} (h : t σ H fun vs H1 => sp (vs ++ dvs) H1 Q (E σ)) : tCallSD sp dvs E t σ H Q := h
theorem q_methE (h : ta σ H fun x H1 => ∃ a dx fs, x = .ref a ∧ H1 a = some (.ins C dx fs) ∧ fs.lookup m = none ∧ t σ H1 fun vs H2 => sp (x :: vs) H2 Q (E σ)) : tMethE C m sp [] E ta t σ H Q := by
  unfold tMethE
  simp only [List.append_nil]
  exact h
theorem q_methEd {dvs : List V} (h : ta σ H fun x H1 => ∃ a dx fs, x = .ref a ∧ H1 a = some (.ins C dx fs) ∧ fs.lookup m = none ∧ t σ H1 fun vs H2 => sp (x :: (vs ++ dvs)) H2 Q (E σ)) : tMethE C m sp dvs E ta t σ H Q := h
theorem q_methd {dvs : List V} {E : XK} (h : ta σ H fun x H1 => ∃ a dx fs, x = .ref a ∧ H1 a = some (.ins C dx fs) ∧ fs.lookup m = none ∧ t σ H1 fun vs H2 => sp (x :: (vs ++ dvs)) H2 Q E) : tMeth C m sp dvs E ta t σ H Q := h
theorem q_makeE (h : t σ H fun vs H1 => ∀ x dx, H1 x = none → H1 dx = none → dx ≠ x → sp (.ref x :: vs) (upd (upd H1 dx (.own x)) x (.ins C dx [])) (fun v H2 => v = .non ∧ Q (.ref x) H2) (E σ)) : tMakeE C sp [] E t σ H Q := by
  unfold tMakeE
  simp only [List.append_nil]
  exact h
theorem q_methb {P : Prop} (h1 : H a = some (.ins C dx fs)) (h2 : fs.lookup m = none) (h : P) : ∃ b dx fs, V.ref a = .ref b ∧ H b = some (.ins C dx fs) ∧ fs.lookup m = none ∧ P := ⟨a, dx, fs, rfl, h1, h2, h⟩
theorem q_lenO (h1 : H a = some (.ins C dx fs)) {P : Addr → Prop} (h : P a) : ∃ b dx fs, [V.ref a] = [.ref b] ∧ H b = some (.ins C dx fs) ∧ P b := ⟨a, dx, fs, rfl, h1, h⟩
theorem q_lenI {n : Int} {P : Int → Prop} (h0 : 0 ≤ n) (h1 : n < 2 ^ 63) (h : P n) : ∃ k : Int, V.int n = .int k ∧ 0 ≤ k ∧ k < 2 ^ 63 ∧ P k := ⟨n, rfl, h0, h1, h⟩
theorem q_eqO {b dy : Addr} {gs : List (Str × V)} {P : Addr → Addr → Prop} (h1 : H a = some (.ins C dx fs)) (h2 : H b = some (.ins C dy gs)) (h : P a b) : ∃ a' dx fs b' dy gs, V.ref a = .ref a' ∧ V.ref b = .ref b' ∧ H a' = some (.ins C dx fs) ∧ H b' = some (.ins C dy gs) ∧ P a' b' := ⟨a, dx, fs, b, dy, gs, rfl, rfl, h1, h2, h⟩
theorem q_bz {z : Bool} {P : Bool → Prop} (h : P z) : ∃ y, V.bl z = .bl y ∧ P y := ⟨z, rfl, h⟩
end
theorem room128 {k : Nat} {A : Around} (r : Room k A) : A.units + 128 < cLine := by
  have := r.un
  omega
theorem q_fldP {K : PySem.W.Frag} {H : Hp} {a C dx : Addr} {fs : List (Str × V)} {f : Str} {v : V} {P : V → Prop} (h1 : H a = some (.ins C dx fs)) (hc : Cls K C) (hn : NoAttr K C f) (hl : fs.lookup f = some v) (h : P v) : ∃ b C dx fs v, V.ref a = .ref b ∧ H b = some (.ins C dx fs) ∧ Cls K C ∧ NoAttr K C f ∧ fs.lookup f = some v ∧ P v := ⟨a, C, dx, fs, v, rfl, h1, hc, hn, hl, h⟩
theorem kg_tup {X : Cx} {K : PySem.W.Frag} {es : List Expr} {k : Nat} {pos : Pos} {t : TGs} {n : Nat} (hK : X.K = K) (hc : X.calm = true) (h : PGs X es t) (hn : (assignEach es X.env).length = n := by rfl) (hst : (assignEach es X.env).findIdx? (·.1) = none := by rfl) : PG X (.Tuple es k pos) (gTup K n t) := by
  subst hK
  exact pg_tup hc h hn hst
theorem lu_nil {f : Str} {α : Type} : List.lookup f ([] : List (Str × α)) = none := rfl
theorem lu_tlN {f g : Str} {y : V} {fs : List (Str × V)} (h : ¬ f = g) (h2 : List.lookup f fs = none) : List.lookup f ((g, y) :: fs) = none := by rw [lu_tl h, h2]
/-! raise, try -/
def WEx (W : WX) : L2.St → XK := fun σ cls d H => W cls d σ H
theorem passX {X : Cx} {W : WX} (tk : Takes X W) (σ : L2.St) : PassesAt (L2.CX X.prog X.w) X σ (WEx W σ) := passAt tk σ
def tRaise (te : TE) (C : Addr) (f : Str) (W : WX) : TS := fun _ σ H => te σ H fun v H1 => ∀ d, H1 d = none → W (.ref C) (some d) σ (upd H1 d (.xd [(f, v)]))
def tTry (tb : WX → TS) (Wout : WX) (l : List Clause) : TS := fun D σ H => tb (wTry Wout D l) D σ H
theorem ps_raiseX {X : Cx} {W : WX} {x f : Str} {e : Expr} {te : TE} {p pos pos' : Pos} {C fI : Addr} {B newId initId : String} {bmB : List Value} (hc : X.calm = true) (tk : Takes X W) (hP : PF X.prog) (T : OexS X.K C fI B newId initId bmB f) (hs : X.mg "super" = none) (hr : Room 2 X.A) (hg : Gl X x) (gC : X.mg x = some (.ref C)) (he : PE X e te) (hdb : (x == ("__debug__" : Str)) = false := by decide)
    (hse : starEach [e] X.env = (false, eval e X.env) :: starEach [] X.env := by rfl) : PS X (.Raise (some (.Call (.Name x p) [e] [] pos)) none pos') (tRaise te C f W) := ps_raise hc tk (pmk_exs hP T hs hr hg gC he hdb hse)
theorem ps_tryX {X : Cx} {Wout : WX} {body : List Stmt} {h₀ : ExceptHandler} {hds : List ExceptHandler} {l : List Clause} {pos : Pos} {tb : WX → TS} (hs : X.stack = X.env :: X.outer) (hf : X.env.frame = some X.env.locals) (hN : X.N.Nodup) (tk : Takes X Wout)
    (hb : ∀ (W : WX) (pn : List (Addr × Obj)) (xe : Value → Shared → Prop), Takes (X.tr pn xe) W → PassesOwn (model X.prog X.w) X.A X.env xe → PSs (X.tr pn xe) body (tb W))
    (hh : ClsOk X (h₀ :: hds) l) : PS X (.Try body (h₀ :: hds) [] [] pos) (tTry tb Wout l) := ps_try_g hs hf hN tk hb hh
section
variable {σ : L2.St} {H : Hp} {Q : VK} {D : Ends} {C d0 : Addr} {f : Str} {te : TE} {W Wout : WX} {tb : WX → TS} {l r : List Clause} {cls : Value} {d : Option Addr} {cf : Value → Option Bool} {i : Nat} {ts : Addr → Value → Option Addr → TS}
theorem q_raise (h : te σ H fun v H1 => ∀ d, H1 d = none → W (.ref C) (some d) σ (upd H1 d (.xd [(f, v)]))) : tRaise te C f W D σ H := h
theorem q_try (h : tb (wTry Wout D l) D σ H) : tTry tb Wout l D σ H := h
theorem q_wE (h : W cls d σ H) : WEx W σ cls d H := h
theorem q_clN (hb : cf cls = some true) (h : ∀ a, H a = none → ts a cls d (goneE i D) (σ.set i (some (.ref a))) H) : wTry Wout D ((cf, some i, ts) :: l) cls d σ H := ⟨true, hb, by rw [if_pos rfl]; exact h⟩
theorem q_clN0 (hb : cf cls = some false) (h : wTry Wout D l cls d σ H) : wTry Wout D ((cf, some i, ts) :: l) cls d σ H := ⟨false, hb, by rw [if_neg Bool.false_ne_true]; exact h⟩
theorem q_clP (hb : cf cls = some true) (h : ∀ a, H a = none → ts a cls d D σ H) : wTry Wout D ((cf, none, ts) :: l) cls d σ H := ⟨true, hb, by rw [if_pos rfl]; exact h⟩
theorem q_clP0 (hb : cf cls = some false) (h : wTry Wout D l cls d σ H) : wTry Wout D ((cf, none, ts) :: l) cls d σ H := ⟨false, hb, by rw [if_neg Bool.false_ne_true]; exact h⟩
theorem q_xg {K : PySem.W.Frag} {a : Addr} (h : te σ H fun x H1 => ∃ (D dd : Addr) (fs : List (Str × V)) (v : V), x = .ref a ∧ cls = .ref D ∧ d = some dd ∧ XfC K D ∧ PySem.W.findIn K (.ref D) f = some none ∧ H1 dd = some (.xd fs) ∧ fs.lookup f = some v ∧ Q v H1) : tXg K a cls d f te σ H Q := h
theorem q_xgb {K : PySem.W.Frag} {a Dc dd : Addr} {fs : List (Str × V)} {v : V} (h1 : H dd = some (.xd fs)) (h2 : XfC K Dc) (h3 : PySem.W.findIn K (.ref Dc) f = some none) {P : V → Prop} (h4 : fs.lookup f = some v) (h : P v) : ∃ (D dd' : Addr) (fs : List (Str × V)) (v : V), V.ref a = .ref a ∧ Value.ref Dc = .ref D ∧ some dd = some dd' ∧ XfC K D ∧ PySem.W.findIn K (.ref D) f = some none ∧ H dd' = some (.xd fs) ∧ fs.lookup f = some v ∧ P v := ⟨Dc, dd, fs, v, rfl, rfl, rfl, h2, h3, h1, h4, h⟩
theorem q_isX {K : PySem.W.Frag} {a Dc dd : Addr} {fs : List (Str × V)} {c : V} {cv : Value} {b : Bool} (h1 : H dd = some (.xd fs)) (h2 : ExcC K Dc) (h3 : ClsV c cv) (h4 : PySem.W.kitOne K (.ref Dc) cv = some b) (h : Q (.bl b) H) : rIsX K a (.ref Dc) (some dd) [.ref a, c] H Q := ⟨Dc, dd, fs, c, cv, b, rfl, rfl, rfl, h1, h2, h3, h4, h⟩
end
section
variable {K : PySem.W.Frag} {cls c : Value} {r : List Value} {b b2 : Bool}
theorem xa_nil : PySem.W.exmAny K cls [] = some false := rfl
theorem xa_cons (h1 : PySem.W.exmOne K cls c = some b) (h2 : PySem.W.exmAny K cls r = some b2) : PySem.W.exmAny K cls (c :: r) = some (b || b2) := by
  unfold PySem.W.exmAny
  rw [h1, h2]
theorem kit_ref {D C : Addr} (hd : PySem.W.hasDictIn K C = true) (ht : PySem.W.typeIn K (.ref C) = some (.type "type")) (hs : PySem.W.subIn K (.ref C) (.ref C) = some true) (h : PySem.W.subIn K (.ref D) (.ref C) = some b) : PySem.W.kitOne K (.ref D) (.ref C) = some b := by
  unfold PySem.W.kitOne
  by_cases e : D = C
  · subst e
    rw [if_pos (beq_self_eq_true _)]
    exact hs.symm.trans h
  · have e' : (Value.ref D == Value.ref C) = false := by simpa using e
    rw [e', if_neg Bool.false_ne_true]
    obtain ⟨cd, hc, _⟩ := PySem.W.any_some hd
    have e2 : ((PySem.W.clsIn K C).isSome && PySem.W.typeIn K (.ref C) == some (.type "type")) = true := by rw [hc, ht]; rfl
    show (if ((PySem.W.clsIn K C).isSome && PySem.W.typeIn K (.ref C) == some (.type "type")) = true then PySem.W.subIn K (.ref D) (.ref C) else none) = some b
    rw [if_pos e2]
    exact h
theorem kit_self {C : Addr} : PySem.W.kitOne K (.ref C) (.ref C) = some true := by
  unfold PySem.W.kitOne
  rw [if_pos (beq_self_eq_true _)]
theorem kit_tyref {T : String} {C : Addr} (hd : PySem.W.hasDictIn K C = true) (ht : PySem.W.typeIn K (.ref C) = some (.type "type")) (h : PySem.W.subIn K (.type T) (.ref C) = some b) : PySem.W.kitOne K (.type T) (.ref C) = some b := by
  unfold PySem.W.kitOne
  have e' : (Value.type T == Value.ref C) = false := rfl
  rw [e', if_neg Bool.false_ne_true]
  obtain ⟨cd, hc, _⟩ := PySem.W.any_some hd
  have e2 : ((PySem.W.clsIn K C).isSome && PySem.W.typeIn K (.ref C) == some (.type "type")) = true := by rw [hc, ht]; rfl
  show (if ((PySem.W.clsIn K C).isSome && PySem.W.typeIn K (.ref C) == some (.type "type")) = true then PySem.W.subIn K (.type T) (.ref C) else none) = some b
  rw [if_pos e2]
  exact h
end
/-! == by items -/
section
variable {K : PySem.W.Frag} {H : Hp} {Q : VK} {a b : Addr} {xs ys : List V} {c : Bool} {x y : V}
theorem q_eqXT (h1 : SqT K H a xs) (h2 : SqT K H b ys) (h3 : E1s K H xs ys c) (q : Q (.bl c) H) : rEqX K (.ref a) (.ref b) H Q := ⟨a, b, xs, ys, c, rfl, rfl, .inl ⟨h1, h2⟩, h3, q⟩
theorem q_eqXL (h1 : SqL K H a xs) (h2 : SqL K H b ys) (h3 : E1s K H xs ys c) (q : Q (.bl c) H) : rEqX K (.ref a) (.ref b) H Q := ⟨a, b, xs, ys, c, rfl, rfl, .inr ⟨h1, h2⟩, h3, q⟩
theorem q_neXT (h1 : SqT K H a xs) (h2 : SqT K H b ys) (h3 : E1s K H xs ys c) (q : Q (.bl (!c)) H) : rNeX K (.ref a) (.ref b) H Q := ⟨a, b, xs, ys, c, rfl, rfl, .inl ⟨h1, h2⟩, h3, q⟩
theorem q_neXL (h1 : SqL K H a xs) (h2 : SqL K H b ys) (h3 : E1s K H xs ys c) (q : Q (.bl (!c)) H) : rNeX K (.ref a) (.ref b) H Q := ⟨a, b, xs, ys, c, rfl, rfl, .inr ⟨h1, h2⟩, h3, q⟩
theorem e1_str {s : Str} : E1 K H (.str s) (.str s) true := by
  have z := E1.str (K := K) (H := H) s s
  rwa [beq_self_eq_true] at z
theorem e1_int {i : Int} : E1 K H (.int i) (.int i) true := by
  have z : PyData.eqv (.int i) (.int i) = true := by simp [PyData.eqv]
  have w : E1 K H (.int i) (.int i) (PyData.eqv (.int i) (.int i)) := .dat (.int i) (.int i) rfl rfl
  rw [z] at w
  exact w
theorem e1_bl {i : Bool} : E1 K H (.bl i) (.bl i) true := by
  have z : PyData.eqv (.bool i) (.bool i) = true := by simp [PyData.eqv]
  have w : E1 K H (.bl i) (.bl i) (PyData.eqv (.bool i) (.bool i)) := .dat (.bl i) (.bl i) rfl rfl
  rw [z] at w
  exact w
theorem e1_non : E1 K H .non .non true := by
  have z : PyData.eqv .none .none = true := by simp [PyData.eqv]
  have w : E1 K H .non .non (PyData.eqv .none .none) := .dat .non .non rfl rfl
  rw [z] at w
  exact w
theorem DpInts {ns : List Int} : DpAll K H (ns.map V.int) (ns.map PyData.int) := by
  induction ns with
  | nil => exact .nil
  | cons n ns ih => exact .cons (.int n) ih
theorem e1_self (hx : (∃ a, x = .ref a) ∨ (∃ s, x = .str s) ∨ (∃ i, x = .int i) ∨ (∃ b, x = .bl b) ∨ x = .non) : E1 K H x x true := by
  rcases hx with ⟨_, rfl⟩ | ⟨_, rfl⟩ | ⟨_, rfl⟩ | ⟨_, rfl⟩ | rfl
  · exact .same _
  · exact e1_str
  · exact e1_int
  · exact e1_bl
  · exact e1_non
theorem e1s_2 {x2 y2 : V} {b1 b2 : Bool} (h1 : E1 K H x y b1) (h2 : E1 K H x2 y2 b2) : E1s K H [x, x2] [y, y2] (b1 && b2) := by
  have z := E1s.cons h1 (E1s.cons h2 .nil)
  simpa using z
end
theorem eqv_ints {ms ns : List Int} : PyData.eqvAll (ms.map PyData.int) (ns.map PyData.int) = decide (ms = ns) := by
  induction ms generalizing ns with
  | nil => cases ns <;> simp [PyData.eqvAll]
  | cons m ms ih =>
    cases ns with
    | nil => simp [PyData.eqvAll]
    | cons n ns =>
      simp only [List.map_cons, PyData.eqvAll, ih, PyData.eqv, List.cons.injEq, Bool.decide_and]
      congr 1
theorem lay_ints {ns : List Int} : PyData.canLayAll0 (ns.map PyData.int) = true := by
  induction ns with
  | nil => rfl
  | cons n ns ih =>
    show (PyData.canLay0 (.int n) && PyData.canLayAll0 (ns.map PyData.int)) = true
    rw [ih]
    rfl
theorem depth_ints {ns : List Int} : PyData.depthAll (ns.map PyData.int) = 0 ∨ PyData.depthAll (ns.map PyData.int) ≤ 1 := by
  induction ns with
  | nil => exact .inl rfl
  | cons n ns ih =>
    refine .inr ?_
    show max (PyData.depth (.int n)) (PyData.depthAll (ns.map PyData.int)) ≤ 1
    have : PyData.depth (.int n) ≤ 1 := Nat.zero_le 1
    omega
theorem sh_ints {ns : List Int} : (PyData.canLayAll0 (ns.map PyData.int) && decide (PyData.depthAll (ns.map PyData.int) + 1 ≤ 64)) = true := by
  rw [lay_ints, Bool.true_and, decide_eq_true_eq]
  have := depth_ints (ns := ns)
  omega
theorem shT {ns : List Int} : SeqAt.shaped (.tuple (ns.map PyData.int)) = true := sh_ints
theorem shL {ns : List Int} : SeqAt.shaped (.list (ns.map PyData.int)) = true := sh_ints
section
variable {K : PySem.W.Frag} {H : Hp} {Q : VK} {a b : Addr} {ms ns : List Int}
theorem q_eqTI (h1 : SqT K H a (ms.map V.int)) (h2 : SqT K H b (ns.map V.int)) (q : Q (.bl (decide (ms = ns))) H) : rEqD K (.ref a) (.ref b) H Q := q_eqD (.tup h1 DpInts) (.tup h2 DpInts) shT shT (by rw [show PyData.eqv (.tuple (ms.map PyData.int)) (.tuple (ns.map PyData.int)) = decide (ms = ns) from eqv_ints]; exact q)
theorem q_neTI (h1 : SqT K H a (ms.map V.int)) (h2 : SqT K H b (ns.map V.int)) (q : Q (.bl (!decide (ms = ns))) H) : rNeD K (.ref a) (.ref b) H Q := q_neD (.tup h1 DpInts) (.tup h2 DpInts) shT shT (by rw [show PyData.eqv (.tuple (ms.map PyData.int)) (.tuple (ns.map PyData.int)) = decide (ms = ns) from eqv_ints]; exact q)
theorem q_eqLI (h1 : SqL K H a (ms.map V.int)) (h2 : SqL K H b (ns.map V.int)) (q : Q (.bl (decide (ms = ns))) H) : rEqD K (.ref a) (.ref b) H Q := q_eqD (.lst h1 DpInts) (.lst h2 DpInts) shL shL (by rw [show PyData.eqv (.list (ms.map PyData.int)) (.list (ns.map PyData.int)) = decide (ms = ns) from eqv_ints]; exact q)
theorem q_neLI (h1 : SqL K H a (ms.map V.int)) (h2 : SqL K H b (ns.map V.int)) (q : Q (.bl (!decide (ms = ns))) H) : rNeD K (.ref a) (.ref b) H Q := q_neD (.lst h1 DpInts) (.lst h2 DpInts) shL shL (by rw [show PyData.eqv (.list (ms.map PyData.int)) (.list (ns.map PyData.int)) = decide (ms = ns) from eqv_ints]; exact q)
end
/-! ### comprehensions over any walk, whose elements change nothing that stood: what holds of each element -/
theorem lc_any {J : It} {n : Nat} {G : Hp → Prop} {Y : Nat → Hp → V → Hp → Prop} (w : Walk J n G Y) {g : TG} {tt : TT} {te : TE} {vs : List Nat} {σ : L2.St} {H1 : Hp} {D : Addr} {Qd : Hp → Prop} (P : Nat → List V → Hp → Prop) (hn : n ≤ 100000) (hP : ∀ k ys H H', P k ys H → Same H H' → P k ys H') (hS : ∀ k ys H acc, P k ys H → P k ys (upd H D (.lst acc))) (h0 : P 0 [] H1)
    (hG : ∀ H', Same H1 H' → G H') (hD : H1 D = none)
    (he : ∀ k x ys H2 H' (R : Bool → Hp → Prop) (S : V → Hp → Prop), k < n → Same H1 H2 → P k ys H2 → H2 D = some (.lst ys) → Y k H2 x H' → (∀ b H3, Same H2 H3 → (b = false → P (k + 1) ys H3) → R b H3) → (∀ y H4, Same H2 H4 → P (k + 1) (ys ++ [y]) H4 → S y H4) → g x (wipe σ vs) H' fun σ2 H3 => wipe σ2 vs = wipe σ vs ∧ tt σ2 H3 fun b H4 => R b H4 ∧ (b = true → te σ2 H4 S))
    (hd : ∀ ys H', Same H1 H' → P n ys H' → H' D = some (.lst ys) → Qd H') (gm : ∀ x H' Q Q', (∀ σ H, Q σ H → Q' σ H) → g x (wipe σ vs) H' Q → g x (wipe σ vs) H' Q')
    (tm : ∀ σ H Q Q', (∀ b H, Q b H → Q' b H) → tt σ H Q → tt σ H Q') :
    ∃ W : Nat → Nat → Hp → Prop, (∃ m, W 0 m (upd H1 D (.lst []))) ∧ ∀ i m H, W i m H →
      (J.stop i H ∧ Qd H) ∨ (J.go i H ∧ ∃ Nx : Hp → Prop, (∀ H', Nx H' → ∃ m', m' < m ∧ W (i + 1) m' H') ∧ ∀ x H', J.yld i H x H' → g x (wipe σ vs) H' fun σ2 H2 => wipe σ2 vs = wipe σ vs ∧ tt σ2 H2 fun b H3 =>
        if b = true then te σ2 H3 fun y H4 => ∃ acc, H4 D = some (.lst acc) ∧ acc.length < sizeLine ∧ Nx (upd H4 D (.lst (acc ++ [y]))) else Nx H3) := by
  refine lc_it w (fun k H' => Same H1 H' ∧ ∃ ys, P k ys H' ∧ ys.length ≤ k ∧ H' D = some (.lst ys)) ⟨Same.new hD, [], hS _ _ _ _ h0, Nat.le_refl _, upd_same⟩ (fun i H' _ h => hG H' h.1) ?_ ?_
  · rintro k x H2 H' hk ⟨s2, ys, p2, l2, d2⟩ y
    refine gm _ _ _ _ (fun σ2 H3 q => ⟨q.1, tm _ _ _ _ (fun b H4 q4 => ?_) q.2⟩) (he k x ys H2 H' (fun b H3 => b = false → Same H1 H3 ∧ ∃ ys, P (k + 1) ys H3 ∧ ys.length ≤ k + 1 ∧ H3 D = some (.lst ys)) (fun y H4 => ∃ acc, H4 D = some (.lst acc) ∧ acc.length < sizeLine ∧ Same H1 (upd H4 D (.lst (acc ++ [y]))) ∧ ∃ ys, P (k + 1) ys (upd H4 D (.lst (acc ++ [y]))) ∧ ys.length ≤ k + 1 ∧ upd H4 D (.lst (acc ++ [y])) D = some (.lst ys)) hk s2 p2 d2 y (fun b H3 s3 p3 hb => ⟨s2.trans s3, ys, p3 hb, Nat.le_succ_of_le l2, s3 _ _ d2⟩) fun v H4 s4 p4 => ⟨ys, s4 _ _ d2, line_lt (by omega), (s2.trans s4).snew hD, ys ++ [v], hS _ _ _ _ p4, by simp; omega, upd_same⟩)
    cases b with
    | true => exact iteT (q4.2 rfl)
    | false => exact iteF (q4.1 rfl)
  · rintro H' ⟨s2, ys, p2, _, d2⟩
    exact hd ys H' s2 p2 d2
theorem tYes_m : ∀ (σ : L2.St) (H : Hp) (Q Q' : Bool → Hp → Prop), (∀ b H, Q b H → Q' b H) → tYes σ H Q → tYes σ H Q' := fun _ _ _ _ h q => h _ _ q
theorem gName_m {i : Nat} {σ : L2.St} : ∀ (x : V) (H' : Hp) (Q Q' : L2.St → Hp → Prop), (∀ σ H, Q σ H → Q' σ H) → gName i x σ H' Q → gName i x σ H' Q' := fun _ _ _ _ h q => h _ _ q
theorem gTup2_m {K : PySem.W.Frag} {i j : Nat} {σ : L2.St} : ∀ (x : V) (H' : Hp) (Q Q' : L2.St → Hp → Prop), (∀ σ H, Q σ H → Q' σ H) → gTup K 2 (gCons (gName i) (gCons (gName j) gNil)) x σ H' Q → gTup K 2 (gCons (gName i) (gCons (gName j) gNil)) x σ H' Q' := by
  rintro x H' Q Q' h ⟨a, xs, e, s, l, v, r, e1, v2, r2, e2, e3, q⟩
  exact ⟨a, xs, e, s, l, v, r, e1, v2, r2, e2, e3, h _ _ q⟩
/-- no test, one name: elements that are the items' values of f, told by P -/
theorem lc_each {J : It} {n : Nat} {G : Hp → Prop} {Y : Nat → Hp → V → Hp → Prop} (w : Walk J n G Y) {i : Nat} {te : TE} {σ : L2.St} {H1 : Hp} {D : Addr} {Qd : Hp → Prop} (P : Nat → V → Hp → Prop) (hn : n ≤ 100000) (hP : ∀ k y H H', P k y H → Same H H' → P k y H') (hS : ∀ k y H acc, P k y H → P k y (upd H D (.lst acc)))
    (hG : ∀ H', Same H1 H' → G H') (hD : H1 D = none)
    (he : ∀ k x H2 H' (S : V → Hp → Prop), k < n → Same H1 H2 → (∃ ys, H2 D = some (.lst ys)) → Y k H2 x H' → (∀ y H4, Same H2 H4 → P k y H4 → S y H4) → te ((wipe σ [i]).set i (some x)) H' S)
    (hd : ∀ ys H', Same H1 H' → ys.length = n → (∀ (k : Nat) y, ys[k]? = some y → P k y H') → H' D = some (.lst ys) → Qd H') :
    ∃ W : Nat → Nat → Hp → Prop, (∃ m, W 0 m (upd H1 D (.lst []))) ∧ ∀ k m H, W k m H →
      (J.stop k H ∧ Qd H) ∨ (J.go k H ∧ ∃ Nx : Hp → Prop, (∀ H', Nx H' → ∃ m', m' < m ∧ W (k + 1) m' H') ∧ ∀ x H', J.yld k H x H' → gName i x (wipe σ [i]) H' fun σ2 H2 => wipe σ2 [i] = wipe σ [i] ∧ tYes σ2 H2 fun b H3 =>
        if b = true then te σ2 H3 fun y H4 => ∃ acc, H4 D = some (.lst acc) ∧ acc.length < sizeLine ∧ Nx (upd H4 D (.lst (acc ++ [y]))) else Nx H3) := by
  refine lc_it w (fun k H' => Same H1 H' ∧ ∃ ys, (∀ (j : Nat) y, ys[j]? = some y → P j y H') ∧ ys.length = k ∧ H' D = some (.lst ys)) ⟨Same.new hD, [], fun j y z => (by simp at z), rfl, upd_same⟩ (fun i H' _ h => hG H' h.1) ?_ ?_
  · rintro k x H2 H' hk ⟨s2, ys, p2, rfl, d2⟩ y
    refine ⟨wipe_set, ?_⟩
    unfold tYes
    refine iteT (he ys.length x H2 H' _ hk s2 ⟨ys, d2⟩ y fun v H4 s4 p4 => ⟨ys, s4 _ _ d2, line_lt (by omega), (s2.trans s4).snew hD, ys ++ [v], ?_, by simp, upd_same⟩)
    intro j z ez
    rcases Nat.lt_or_ge j ys.length with hj | hj
    · rw [List.getElem?_append_left hj] at ez
      exact hS _ _ _ _ (hP _ _ _ _ (p2 j z ez) s4)
    · rw [List.getElem?_append_right hj] at ez
      rcases Nat.eq_zero_or_pos (j - ys.length) with hz | hz
      · rw [hz] at ez
        have ej : j = ys.length := by omega
        subst ej
        simp at ez
        subst ez
        exact hS _ _ _ _ p4
      · rw [List.getElem?_eq_none (by simp; omega)] at ez
        cases ez
  · rintro H' ⟨s2, ys, p2, l2, d2⟩
    exact hd ys H' s2 l2 p2 d2
/-- over a range, each element a function of the number -/
theorem lc_rangeF {lo : Int} {n i : Nat} {te : TE} {σ : L2.St} {H1 : Hp} {D : Addr} {Qd : Hp → Prop} (f : Nat → V) (hn : n ≤ 100000) (hD : H1 D = none)
    (he : ∀ k, k < n → ∀ H2 (R : VK), Same H1 H2 → (∀ H4, Same H2 H4 → R (f k) H4) → te ((wipe σ [i]).set i (some (.int (lo + k)))) H2 R)
    (hd : ∀ H', Same H1 H' → H' D = some (.lst ((List.range n).map f)) → Qd H') :
    ∃ W : Nat → Nat → Hp → Prop, (∃ m, W 0 m (upd H1 D (.lst []))) ∧ ∀ k m H, W k m H →
      ((Itr lo n).stop k H ∧ Qd H) ∨ ((Itr lo n).go k H ∧ ∃ Nx : Hp → Prop, (∀ H', Nx H' → ∃ m', m' < m ∧ W (k + 1) m' H') ∧ ∀ x H', (Itr lo n).yld k H x H' → gName i x (wipe σ [i]) H' fun σ2 H2 => wipe σ2 [i] = wipe σ [i] ∧ tYes σ2 H2 fun b H3 =>
        if b = true then te σ2 H3 fun y H4 => ∃ acc, H4 D = some (.lst acc) ∧ acc.length < sizeLine ∧ Nx (upd H4 D (.lst (acc ++ [y]))) else Nx H3) := by
  refine lc_grow walk_range ((List.range n).map f) (by simp) hn (fun _ _ => trivial) hD ?_ hd (fun _ _ _ _ q h => q _ _ h)
  rintro k x H2 H' R hk s2 ⟨rfl, rfl⟩ hR
  refine ⟨wipe_set, he k hk H' R s2 fun H4 s4 => hR _ _ ?_ s4⟩
  rw [List.getElem?_map, List.getElem?_range hk]
  rfl
theorem q_zipA {K : PySem.W.Frag} {ta : TA} {σ : L2.St} {H : Hp} {R : It → Hp → Prop} (h : ta σ H fun vs H1 => ∃ a b xs ys, vs = [.ref a, .ref b] ∧ ((SqL K H1 a xs ∧ SqL K H1 b ys ∧ R (Itz K a b) H1) ∨ (SqT K H1 a xs ∧ SqT K H1 b ys ∧ R (RZ.ItzT K a b) H1))) : RZ.iZipA K ta σ H R := h
theorem q_zipT {K : PySem.W.Frag} {H : Hp} {a b : Addr} {xs ys : List V} {R R2 : Addr → Addr → Prop} (h1 : SqT K H a xs) (h2 : SqT K H b ys) (h : R2 a b) : ∃ a' b' xs ys, [V.ref a, V.ref b] = [.ref a', .ref b'] ∧ ((SqL K H a' xs ∧ SqL K H b' ys ∧ R a' b') ∨ (SqT K H a' xs ∧ SqT K H b' ys ∧ R2 a' b')) := ⟨a, b, xs, ys, rfl, .inr ⟨h1, h2, h⟩⟩
theorem lc_rangeB {lo : Int} {n i : Nat} {te : TE} {σ : L2.St} {H1 : Hp} {D : Addr} {Qd : Hp → Prop} (f : Nat → Bool) (hn : n ≤ 100000) (hD : H1 D = none)
    (he : ∀ k, k < n → ∀ H2 (R : VK), Same H1 H2 → (∀ H4, Same H2 H4 → R (.bl (f k)) H4) → te ((wipe σ [i]).set i (some (.int (lo + k)))) H2 R)
    (hd : ∀ H', Same H1 H' → H' D = some (.lst (((List.range n).map f).map V.bl)) → Qd H') :
    ∃ W : Nat → Nat → Hp → Prop, (∃ m, W 0 m (upd H1 D (.lst []))) ∧ ∀ k m H, W k m H →
      ((Itr lo n).stop k H ∧ Qd H) ∨ ((Itr lo n).go k H ∧ ∃ Nx : Hp → Prop, (∀ H', Nx H' → ∃ m', m' < m ∧ W (k + 1) m' H') ∧ ∀ x H', (Itr lo n).yld k H x H' → gName i x (wipe σ [i]) H' fun σ2 H2 => wipe σ2 [i] = wipe σ [i] ∧ tYes σ2 H2 fun b H3 =>
        if b = true then te σ2 H3 fun y H4 => ∃ acc, H4 D = some (.lst acc) ∧ acc.length < sizeLine ∧ Nx (upd H4 D (.lst (acc ++ [y]))) else Nx H3) := lc_rangeF (fun k => .bl (f k)) hn hD he fun H' s e => hd H' s (by rw [e, List.map_map]; rfl)
theorem lc_rangeI {lo : Int} {n i : Nat} {te : TE} {σ : L2.St} {H1 : Hp} {D : Addr} {Qd : Hp → Prop} (f : Nat → Int) (hn : n ≤ 100000) (hD : H1 D = none)
    (he : ∀ k, k < n → ∀ H2 (R : VK), Same H1 H2 → (∀ H4, Same H2 H4 → R (.int (f k)) H4) → te ((wipe σ [i]).set i (some (.int (lo + k)))) H2 R)
    (hd : ∀ H', Same H1 H' → H' D = some (.lst (((List.range n).map f).map V.int)) → Qd H') :
    ∃ W : Nat → Nat → Hp → Prop, (∃ m, W 0 m (upd H1 D (.lst []))) ∧ ∀ k m H, W k m H →
      ((Itr lo n).stop k H ∧ Qd H) ∨ ((Itr lo n).go k H ∧ ∃ Nx : Hp → Prop, (∀ H', Nx H' → ∃ m', m' < m ∧ W (k + 1) m' H') ∧ ∀ x H', (Itr lo n).yld k H x H' → gName i x (wipe σ [i]) H' fun σ2 H2 => wipe σ2 [i] = wipe σ [i] ∧ tYes σ2 H2 fun b H3 =>
        if b = true then te σ2 H3 fun y H4 => ∃ acc, H4 D = some (.lst acc) ∧ acc.length < sizeLine ∧ Nx (upd H4 D (.lst (acc ++ [y]))) else Nx H3) := lc_rangeF (fun k => .int (f k)) hn hD he fun H' s e => hd H' s (by rw [e, List.map_map]; rfl)
theorem atI_map {ns : List Int} {i : Nat} (h : i < ns.length) : atI (ns.map V.int) (0 + (i : Int)) = some (V.int (ns.getD i 0)) := by
  rw [Int.zero_add]
  refine atI_nat ?_
  rw [List.getElem?_map, List.getElem?_eq_getElem h]
  simp [List.getD, h]
theorem q_intB {k : Bool} {P : Int → Prop} {P' : Bool → Prop} (h : P' k) : (∃ i, [V.bl k] = [.int i] ∧ P i) ∨ ∃ k', [V.bl k] = [.bl k'] ∧ P' k' := .inr ⟨k, rfl, h⟩
theorem q_intI {i : Int} {P : Int → Prop} {P' : Bool → Prop} (h : P i) : (∃ j, [V.int i] = [.int j] ∧ P j) ∨ ∃ k', [V.int i] = [.bl k'] ∧ P' k' := .inl ⟨i, rfl, h⟩
theorem range_zip {g : Int → Int → Int} {ms ns : List Int} (hl : ns.length = ms.length) : ((List.range ms.length).map fun i => g (ms.getD i 0) (ns.getD i 0)) = List.zipWith g ms ns := by
  induction ms generalizing ns with
  | nil => rfl
  | cons m ms ih =>
    cases ns with
    | nil => simp at hl
    | cons n ns =>
      rw [List.length_cons, List.range_succ_eq_map, List.map_cons, List.map_map, List.zipWith_cons_cons, ← ih (ns := ns) (by simpa using hl)]
      rfl
theorem at0z {α : Type} {a : α} {xs : List α} : atI (a :: xs) (0 + ((0 : Nat) : Int)) = some a := atI_nat (j := 0) rfl
theorem at1z {α : Type} {a b : α} {xs : List α} : atI (a :: b :: xs) (0 + ((1 : Nat) : Int)) = some b := atI_nat (j := 1) rfl
theorem at2z {α : Type} {a b c : α} {xs : List α} : atI (a :: b :: c :: xs) (0 + ((2 : Nat) : Int)) = some c := atI_nat (j := 2) rfl
/-- over a list or a tuple -/
def iSeq (K : PySem.W.Frag) (tl : TE) : TI := fun σ H R => iList K tl σ H R ∨ iTup K tl σ H R
theorem kpi_seq {X : Cx} {K : PySem.W.Frag} {tg e : Expr} {tl : TE} (hK : X.K = K) (he : PE X e tl) : PI X tg e (iSeq K tl) := by
  subst hK
  refine ⟨fun pins s σ H R I h => ?_⟩
  rcases h with h | h
  · exact (pi_list he).run pins s σ H R I h
  · exact (pi_tup he).run pins s σ H R I h
theorem q_seqL {K : PySem.W.Frag} {tl : TE} {σ : L2.St} {H : Hp} {R : It → Hp → Prop} (h : tl σ H fun x H1 => ∃ a, x = .ref a ∧ (∃ xs, SqL K H1 a xs) ∧ R (Itl K a) H1) : iSeq K tl σ H R := .inl h
theorem q_seqT {K : PySem.W.Frag} {tl : TE} {σ : L2.St} {H : Hp} {R : It → Hp → Prop} (h : tl σ H fun x H1 => ∃ a, x = .ref a ∧ (∃ xs, SqT K H1 a xs) ∧ R (Itt K a) H1) : iSeq K tl σ H R := .inr h
theorem q_iTup {K : PySem.W.Frag} {tl : TE} {σ : L2.St} {H : Hp} {R : It → Hp → Prop} (h : tl σ H fun x H1 => ∃ a, x = .ref a ∧ (∃ xs, SqT K H1 a xs) ∧ R (Itt K a) H1) : iTup K tl σ H R := h
theorem q_iTupb {K : PySem.W.Frag} {a : Addr} {H : Hp} {xs : List V} {R : Addr → Prop} (h1 : SqT K H a xs) (h : R a) : ∃ b, V.ref a = .ref b ∧ (∃ xs, SqT K H b xs) ∧ R b := ⟨a, rfl, ⟨xs, h1⟩, h⟩
theorem kp_revL {X : Cx} {K : PySem.W.Frag} {e : Expr} {te : TE} {k : Nat} {p1 p2 p3 pos : Pos} (hK : X.K = K) (he : PE X e te) : PE X (.Subscript e (.Slice none none (some (.UnaryOp .USub (.Constant (.int 1) k p1) p2)) p3) pos) (tRevL K te) := by
  subst hK
  exact pe_revL he
theorem q_revL {K : PySem.W.Frag} {te : TE} {σ : L2.St} {H : Hp} {Q : VK} (h : te σ H fun x H1 => ∃ a xs, x = .ref a ∧ SqL K H1 a xs ∧ ∀ p, H1 p = none → Q (.ref p) (upd H1 p (.lst xs.reverse))) : tRevL K te σ H Q := h
theorem q_revLb {K : PySem.W.Frag} {H : Hp} {a : Addr} {xs : List V} {P : Addr → List V → Prop} (h1 : SqL K H a xs) (h : P a xs) : ∃ b xs, V.ref a = .ref b ∧ SqL K H b xs ∧ P b xs := ⟨a, xs, rfl, h1, h⟩
theorem q_yes {σ : L2.St} {H : Hp} {Q : Bool → Hp → Prop} (h : Q true H) : tYes σ H Q := h
theorem walk_zipT {K : PySem.W.Frag} {a b : Addr} {xs ys : List V} : Walk (RZ.ItzT K a b) (min xs.length ys.length) (fun H => SqT K H a xs ∧ SqT K H b ys) (YPair (fun i => xs[i]?) (fun i => ys[i]?)) := by
  constructor
  · rintro i H hi ⟨q1, q2⟩
    have h1 : i < xs.length := by omega
    have h2 : i < ys.length := by omega
    exact ⟨xs, ys, xs[i], ys[i], q1, q2, by simp [h1], by simp [h2]⟩
  · rintro H ⟨q1, q2⟩
    exact ⟨xs, ys, q1, q2, by omega⟩
  · rintro i H x H' hi ⟨q1, q2⟩ ⟨T, u, v, h1, h2, h3, h4, h5⟩
    exact ⟨T, u, v, h1, h2, h3, h4 xs q1, h5 ys q2⟩
/-- over two tuples side by side, each element a function of both items -/
theorem lc_zipF {K : PySem.W.Frag} {a b : Addr} {xs ys : List V} {i j : Nat} {g : TG} {te : TE} {σ : L2.St} {H1 : Hp} {D : Addr} {Qd : Hp → Prop} (f : V → V → V) (ha : SqT K H1 a xs) (hb : SqT K H1 b ys) (hl : xs.length ≤ 100000) (hD : H1 D = none)
    (he : ∀ x ∈ xs, ∀ y ∈ ys, ∀ p H2 (R : VK), Same H1 H2 → H2 p = some (.tup [x, y]) → (∀ H4, Same H2 H4 → R (f x y) H4) → g (.ref p) (wipe σ [i, j]) H2 fun σ2 H3 => wipe σ2 [i, j] = wipe σ [i, j] ∧ te σ2 H3 R)
    (hd : ∀ H', Same H1 H' → H' D = some (.lst ((xs.zip ys).map fun z => f z.1 z.2)) → Qd H') (gm : ∀ x H' Q Q', (∀ σ H, Q σ H → Q' σ H) → g x (wipe σ [i, j]) H' Q → g x (wipe σ [i, j]) H' Q') :
    ∃ W : Nat → Nat → Hp → Prop, (∃ m, W 0 m (upd H1 D (.lst []))) ∧ ∀ k m H, W k m H →
      ((RZ.ItzT K a b).stop k H ∧ Qd H) ∨ ((RZ.ItzT K a b).go k H ∧ ∃ Nx : Hp → Prop, (∀ H', Nx H' → ∃ m', m' < m ∧ W (k + 1) m' H') ∧ ∀ x H', (RZ.ItzT K a b).yld k H x H' → g x (wipe σ [i, j]) H' fun σ2 H2 => wipe σ2 [i, j] = wipe σ [i, j] ∧ tYes σ2 H2 fun b H3 =>
        if b = true then te σ2 H3 fun y H4 => ∃ acc, H4 D = some (.lst acc) ∧ acc.length < sizeLine ∧ Nx (upd H4 D (.lst (acc ++ [y]))) else Nx H3) := by
  refine lc_grow walk_zipT ((xs.zip ys).map fun z => f z.1 z.2) (by simp) (by omega) (fun _ s => ⟨s.seqT ha, s.seqT hb⟩) hD ?_ hd gm
  rintro k x H2 H' R hk s2 hy hR
  obtain ⟨p, u, v, rfl, hp, rfl, e1, e2⟩ := hy
  refine he u (List.mem_of_getElem? e1) v (List.mem_of_getElem? e2) p _ R (s2.trans (Same.new hp)) upd_same fun H4 s4 => hR _ _ ?_ ((Same.new hp).trans s4)
  rw [List.getElem?_map, show (xs.zip ys)[k]? = some (u, v) from List.getElem?_zip_eq_some.mpr ⟨e1, e2⟩]
  rfl
/-- the frame by its name, where the place is within a handler -/
theorem kbm {X : Cx} {K : PySem.W.Frag} {e : Expr} {T : String} {r : V → List V → Hp → VK → Prop} {to : TE} {t : TA} (hK : X.K = K) (h : PE X e (tBM X.K T r to t)) : PE X e (tBM K T r to t) := hK ▸ h

section
variable {K : PySem.W.Frag} {σ : L2.St} {H : Hp} {Q : VK} {C a dx : Addr} {m : Str} {fs : List (Str × V)} {E : XK} {sp : Sp} {ta : TE} {t tk : TA}
theorem q_methN {n j : Nat} {gV : List V → List V → List V} (h : ta σ H fun x H1 => ∃ a dx fs, x = .ref a ∧ H1 a = some (.ins C dx fs) ∧ fs.lookup m = none ∧ t σ H1 fun vs H2 => tk σ H2 fun zs H3 => vs.length = n ∧ zs.length = j ∧ sp (gV (x :: vs) zs) H3 Q E) : tMethN C m n j sp gV E ta t tk σ H Q := h
theorem q_enumT {R : It → Hp → Prop} (h : t σ H fun vs H1 => ∃ a xs, vs = [.ref a] ∧ SqT K H1 a xs ∧ R (ItEt K a) H1) : iEnumT K t σ H R := h
theorem q_enumTb {xs : List V} {R : Addr → Prop} (h1 : SqT K H a xs) (h : R a) : ∃ b xs, [V.ref a] = [.ref b] ∧ SqT K H b xs ∧ R b := ⟨a, xs, rfl, h1, h⟩
theorem q_insert {p : Addr} {xs : List V} {i : Int} {y : V} (h : H p = some (.lst xs)) (hl : xs.length < sizeLine) (h0 : 0 ≤ i) (h1 : i < 2 ^ 63) (q : Q .non (upd H p (.lst (xs.take i.toNat ++ [y] ++ xs.drop i.toNat)))) :
    ∃ (l : Addr) (xs : List V) (j : Int) (z : V), V.ref p = .ref l ∧ [V.int i, y] = [.int j, z] ∧ H l = some (.lst xs) ∧ xs.length < sizeLine ∧ 0 ≤ j ∧ j < 2 ^ 63 ∧ Q .non (upd H l (.lst (xs.take j.toNat ++ [z] ++ xs.drop j.toNat))) := ⟨p, xs, i, y, rfl, rfl, h, hl, h0, h1, q⟩
end
/-- side by side -/
inductive All2 {β : Type} (P : V → β → Prop) : List V → List β → Prop
  | nil : All2 P [] []
  | cons {x : V} {c : β} {xs : List V} {cs : List β} : P x c → All2 P xs cs → All2 P (x :: xs) (c :: cs)
section
variable {β : Type} {P P' : V → β → Prop} {xs ys : List V} {cs ds : List β} {x : V} {c : β}
theorem All2.len (h : All2 P xs cs) : xs.length = cs.length := by
  induction h with
  | nil => rfl
  | cons _ _ ih => simp [ih]
theorem All2.mono (h : All2 P xs cs) (m : ∀ x c, P x c → P' x c) : All2 P' xs cs := by
  induction h with
  | nil => exact .nil
  | cons a _ ih => exact .cons (m _ _ a) ih
theorem All2.app (h : All2 P xs cs) (h2 : All2 P ys ds) : All2 P (xs ++ ys) (cs ++ ds) := by
  induction h with
  | nil => exact h2
  | cons a _ ih => exact .cons a ih
theorem All2.snoc (h : All2 P xs cs) (hx : P x c) : All2 P (xs ++ [x]) (cs ++ [c]) := h.app (.cons hx .nil)
theorem All2.take (h : All2 P xs cs) (n : Nat) : All2 P (xs.take n) (cs.take n) := by
  induction h generalizing n with
  | nil => simp; exact .nil
  | cons a _ ih =>
    cases n with
    | zero => exact .nil
    | succ n => exact .cons a (ih n)
theorem All2.drop (h : All2 P xs cs) (n : Nat) : All2 P (xs.drop n) (cs.drop n) := by
  induction h generalizing n with
  | nil => simp; exact .nil
  | cons a t ih =>
    cases n with
    | zero => exact .cons a t
    | succ n => exact ih n
theorem All2.get (h : All2 P xs cs) {k : Nat} (e : xs[k]? = some x) : ∃ c, cs[k]? = some c ∧ P x c := by
  induction h generalizing k with
  | nil => simp at e
  | cons a _ ih =>
    cases k with
    | zero =>
      simp at e
      subst e
      exact ⟨_, rfl, a⟩
    | succ k => exact ih (by simpa using e)
theorem All2.mem (h : All2 P xs cs) (e : x ∈ xs) : ∃ c, c ∈ cs ∧ P x c := by
  obtain ⟨k, hk⟩ := List.mem_iff_getElem?.mp e
  obtain ⟨c, h1, h2⟩ := h.get hk
  exact ⟨c, List.mem_of_getElem? h1, h2⟩
theorem All2.maps {γ : Type} {R : V → γ → Prop} {f : β → γ} (h : All2 P xs cs) (m : ∀ x c, P x c → R x (f c)) : All2 R xs (cs.map f) := by
  induction h with
  | nil => exact .nil
  | cons a _ ih => exact .cons (m _ _ a) ih
theorem All2.ofMap {γ : Type} {f : β → γ} {R : V → γ → Prop} (h : All2 R xs (cs.map f)) : All2 (fun x c => R x (f c)) xs cs := by
  induction cs generalizing xs with
  | nil => cases h; exact .nil
  | cons c cs ih =>
    cases h with
    | cons a t => exact .cons a (ih t)
end
/-- slices by whole bounds that lie within -/
theorem cut_pre {xs : List V} {k : Nat} (h : k ≤ xs.length) : cutV xs none (some (k : Int)) = xs.take k := by
  unfold cutV
  rw [HT.sIx_none, HT.sIx_nat, Nat.min_eq_left h]
  simp
theorem cut_suf {xs : List V} {k : Nat} (h : k ≤ xs.length) : cutV xs (some (k : Int)) none = xs.drop k := by
  unfold cutV
  rw [HT.sIx_none, HT.sIx_nat, Nat.min_eq_left h]
  exact List.take_of_length_le (by rw [List.length_drop]; omega)
theorem inV_ints {k : Int} {ns : List Int} : inV (.int k) (ns.map V.int) = decide (k ∈ ns) := by
  unfold inV
  induction ns with
  | nil => rfl
  | cons n ns ih =>
    rw [List.map_cons, List.any_cons, ih]
    have e : eqV (.int n) (.int k) = decide (n = k) := by
      show (n == k) = decide (n = k)
      rfl
    rw [e]
    by_cases h : n = k
    · subst h
      simp
    · rw [decide_eq_false h, Bool.false_or]
      by_cases h2 : k ∈ ns
      · rw [decide_eq_true h2, decide_eq_true (List.mem_cons_of_mem _ h2)]
      · rw [decide_eq_false h2, decide_eq_false]
        intro z
        rcases List.mem_cons.mp z with z | z
        · exact h z.symm
        · exact h2 z
theorem flat_ints {ns : List Int} : (ns.map V.int).all flatV = true := by
  induction ns with
  | nil => rfl
  | cons n ns ih =>
    rw [List.map_cons, List.all_cons, ih]
    rfl
theorem q_inI {K : PySem.W.Frag} {H : Hp} {Q : VK} {p : Addr} {k : Int} {ns : List Int} (h : SqL K H p (ns.map V.int)) (q : Q (.bl (decide (k ∈ ns))) H) : rIn K false (.int k) (.ref p) H Q :=
  ⟨p, _, rfl, .inl h, rfl, flat_ints, by
    show Q (.bl (inV (.int k) (ns.map V.int))) H
    rw [inV_ints]
    exact q⟩
/-- a list or a tuple of these -/
def LT (H : Hp) (a : Addr) (xs : List V) : Prop := H a = some (.lst xs) ∨ H a = some (.tup xs)
theorem LT.same {H H' : Hp} {a : Addr} {xs : List V} (h : LT H a xs) (s : Same H H') : LT H' a xs := h.imp (fun e => s _ _ e) (fun e => s _ _ e)
theorem LT.ty {K : PySem.W.Frag} {H : Hp} {a : Addr} {xs : List V} (h : LT H a xs) : ∃ t, TyX K H (.ref a) t ∧ PySem.W.kitAny K t [.type "list", .type "tuple"] = some true := by
  rcases h with h | h
  · exact ⟨_, .base (.lst h), ka_t kt_list_list⟩
  · exact ⟨_, .base (.tup h), ka_f kt_tuple_list (ka_t kt_tuple_tuple)⟩
theorem LT.ob {H : Hp} {a : Addr} {xs : List V} (h : LT H a xs) : ∃ o, (o = .lst xs ∨ o = .tup xs) ∧ H a = some o := by
  rcases h with h | h
  · exact ⟨_, .inl rfl, h⟩
  · exact ⟨_, .inr rfl, h⟩
/-- a for over a list or a tuple that stays -/
theorem q_forSeq {K : PySem.W.Frag} {a : Addr} {xs : List V} {o : HO} {j : Nat} {g : TG} {tb : TS} {D : Ends} {σ : L2.St} {H : Hp} (hj : σ[j]? = some (some (.ref a))) (ho : o = .lst xs ∨ o = .tup xs) (h1 : H a = some o) (Pv : Nat → L2.St → Hp → Prop) (h0 : Pv 0 σ H) (hl : ∀ i σ H, i ≤ xs.length → Pv i σ H → H a = some o)
    (hs : ∀ i x σ H, xs[i]? = some x → Pv i σ H → g x σ H fun σ2 H2 => tb { D with nx := Pv (i + 1), ct := Pv (i + 1), bk := D.nx } σ2 H2) (hd : ∀ σ H, Pv xs.length σ H → D.nx σ H) :
    iSeq K (tVar j) σ H fun J H1 => ∃ W : Nat → Nat → L2.St → Hp → Prop, (∃ m, W 0 m σ H1) ∧ ∀ i m σ H, W i m σ H →
      (J.stop i H ∧ D.nx σ H) ∨ (J.go i H ∧ ∃ N : L2.St → Hp → Prop, (∀ σ' H', N σ' H' → ∃ m', m' < m ∧ W (i + 1) m' σ' H') ∧ ∀ x H', J.yld i H x H' → g x σ H' fun σ2 H2 => tb { D with nx := N, ct := N, bk := D.nx } σ2 H2) := by
  rcases ho with rfl | rfl
  · exact .inl ⟨_, hj, a, rfl, ⟨xs, SqL.of h1⟩, for_list Pv h0 (fun i σ H hi p => SqL.of (hl i σ H hi p)) hs hd⟩
  · exact .inr ⟨_, hj, a, rfl, ⟨xs, SqT.of h1⟩, for_tup Pv h0 (fun i σ H hi p => SqT.of (hl i σ H hi p)) hs hd⟩
theorem ixN_at {n j : Nat} (hj : j < n) : ixN n (j : Int) = some j := by
  show (if 0 ≤ (j : Int) then (if (j : Int) < n then some (j : Int).toNat else none) else _) = some j
  rw [if_pos (by omega), if_pos (by omega), Int.toNat_natCast]
/-- no list of the heap -/
def NoL (H : Hp) (x : V) : Prop := (∀ a, x ≠ .ref a) ∨ ∃ a o, x = .ref a ∧ H a = some o ∧ ∀ xs, o ≠ .lst xs
theorem NoL.same {H H' : Hp} {x : V} (h : NoL H x) (s : Same H H') : NoL H' x := by
  rcases h with h | ⟨a, o, e, h1, h2⟩
  · exact .inl h
  · exact .inr ⟨a, o, e, s _ _ h1, h2⟩
theorem NoL.no {H : Hp} {x : V} {a : Addr} {xs : List V} (h : NoL H x) (ex : x = .ref a) (e : H a = some (.lst xs)) : False := by
  rcases h with h | ⟨b, o, e2, h1, h2⟩
  · exact h a ex
  · rw [ex] at e2
    obtain rfl : a = b := V.ref.inj e2
    rw [e] at h1
    exact h2 xs (Option.some.inj h1).symm
/-- a pair of ints -/
def PairAt (H : Hp) (x : V) (c : Int × Int) : Prop := ∃ t, x = .ref t ∧ H t = some (.tup [.int c.1, .int c.2])
theorem PairAt.same {H H' : Hp} {x : V} {c : Int × Int} (h : PairAt H x c) (s : Same H H') : PairAt H' x c := by
  obtain ⟨t, e, h1⟩ := h
  exact ⟨t, e, s _ _ h1⟩
/-- a pair of ints that is not the thing at D -/
def PairD (D : Addr) (H : Hp) (x : V) (c : Int × Int) : Prop := ∃ t, x = .ref t ∧ t ≠ D ∧ H t = some (.tup [.int c.1, .int c.2])
theorem PairD.same {D : Addr} {H H' : Hp} {x : V} {c : Int × Int} (h : PairD D H x c) (s : Same H H') : PairD D H' x c := by
  obtain ⟨t, e, n, h1⟩ := h
  exact ⟨t, e, n, s _ _ h1⟩
theorem PairD.upd {D : Addr} {H : Hp} {x : V} {c : Int × Int} {o : HO} (h : PairD D H x c) : PairD D (upd H D o) x c := by
  obtain ⟨t, e, n, h1⟩ := h
  exact ⟨t, e, n, (upd_ne n).trans h1⟩
theorem PairD.at {D : Addr} {H : Hp} {x : V} {c : Int × Int} (h : PairD D H x c) : PairAt H x c := by
  obtain ⟨t, e, n, h1⟩ := h
  exact ⟨t, e, h1⟩
def pairOf (c : Int × Int) : PyData := .tuple [.int c.1, .int c.2]
theorem PairAt.dp {K : PySem.W.Frag} {H : Hp} {xs : List V} {cs : List (Int × Int)} (h : All2 (PairAt H) xs cs) : DpAll K H xs (cs.map pairOf) := by
  induction h with
  | nil => exact .nil
  | cons a _ ih =>
    obtain ⟨t, rfl, ht⟩ := a
    exact .cons (.tup (SqT.of ht) (.cons (.int _) (.cons (.int _) .nil))) ih
theorem eqv_pairs {cs ds : List (Int × Int)} : PyData.eqvAll (cs.map pairOf) (ds.map pairOf) = decide (cs = ds) := by
  induction cs generalizing ds with
  | nil => cases ds <;> simp [PyData.eqvAll]
  | cons c cs ih =>
    cases ds with
    | nil => simp [PyData.eqvAll]
    | cons d ds =>
      have e : PyData.eqv (pairOf c) (pairOf d) = decide (c = d) := by
        obtain ⟨c1, c2⟩ := c
        obtain ⟨d1, d2⟩ := d
        unfold pairOf
        simp only [PyData.eqv, PyData.eqvAll, Prod.mk.injEq, Bool.decide_and, Bool.and_true]
        rfl
      simp only [List.map_cons, PyData.eqvAll, ih, e, List.cons.injEq, Bool.decide_and]
theorem lay_pairs {cs : List (Int × Int)} : PyData.canLayAll0 (cs.map pairOf) = true := by
  induction cs with
  | nil => rfl
  | cons c cs ih =>
    show (PyData.canLay0 (pairOf c) && PyData.canLayAll0 (cs.map pairOf)) = true
    rw [ih]
    rfl
theorem depth_pairs {cs : List (Int × Int)} : PyData.depthAll (cs.map pairOf) ≤ 3 := by
  induction cs with
  | nil => exact Nat.zero_le _
  | cons c cs ih =>
    show max (PyData.depth (pairOf c)) (PyData.depthAll (cs.map pairOf)) ≤ 3
    have h1 : PyData.depth (pairOf c) ≤ 3 := by
      unfold pairOf
      exact (by decide : (PyData.depth (.tuple [.int 0, .int 0])) ≤ 3)
    omega
theorem sh_pairs {cs : List (Int × Int)} : SeqAt.shaped (.list (cs.map pairOf)) = true := by
  show (PyData.canLayAll0 (cs.map pairOf) && decide (PyData.depthAll (cs.map pairOf) + 1 ≤ 64)) = true
  rw [lay_pairs, Bool.true_and, decide_eq_true_eq]
  have := depth_pairs (cs := cs)
  omega
theorem q_neLP {K : PySem.W.Frag} {H : Hp} {Q : VK} {a b : Addr} {xs ys : List V} {cs ds : List (Int × Int)} (h1 : SqL K H a xs) (h2 : SqL K H b ys) (hx : All2 (PairAt H) xs cs) (hy : All2 (PairAt H) ys ds) (q : Q (.bl (!decide (cs = ds))) H) : rNeD K (.ref a) (.ref b) H Q :=
  q_neD (.lst h1 (PairAt.dp hx)) (.lst h2 (PairAt.dp hy)) sh_pairs sh_pairs (by rw [show PyData.eqv (.list (cs.map pairOf)) (.list (ds.map pairOf)) = decide (cs = ds) from eqv_pairs]; exact q)
theorem PairD.all {D : Addr} {H : Hp} {xs : List V} {cs : List (Int × Int)} (h : All2 (PairD D H) xs cs) : All2 (PairAt H) xs cs := h.mono fun _ _ z => z.at
theorem PairAt.all {H H' : Hp} {xs : List V} {cs : List (Int × Int)} (h : All2 (PairAt H) xs cs) (s : Same H H') : All2 (PairAt H') xs cs := h.mono fun _ _ z => z.same s
theorem PairAt.updL {H : Hp} {l : Addr} {zs xs : List V} {o : HO} {cs : List (Int × Int)} (h : All2 (PairAt H) xs cs) (e : H l = some (.lst zs)) : All2 (PairAt (upd H l o)) xs cs := h.mono fun x c z => by
  obtain ⟨t, ex, h1⟩ := z
  refine ⟨t, ex, (upd_ne (fun q => ?_)).trans h1⟩
  rw [q, e] at h1
  cases h1
theorem rep_ints {c : Int} {n : Nat} : (List.replicate n [V.int c]).flatten = (List.replicate n c).map V.int := by
  induction n with
  | zero => rfl
  | succ n ih => rw [List.replicate_succ, List.flatten_cons, ih]; rfl
theorem nn_rep {c : Int} {n : Nat} (h : 0 ≤ c) : NN ((List.replicate n c).map V.int) := NN.of fun m hm => by
  have := List.eq_of_mem_replicate hm
  omega
theorem atI_mapN {ns : List Int} {i : Nat} (h : i < ns.length) : atI (ns.map V.int) (i : Int) = some (V.int (ns.getD i 0)) := by
  have z := atI_map h
  rwa [Int.zero_add] at z
theorem set_cut {ms : List Int} {j : Nat} {x : Int} (h : j < ms.length) : (ms.map V.int).take j ++ [V.int x] ++ (ms.map V.int).drop (j + 1) = (ms.set j x).map V.int := by
  rw [List.set_eq_take_append_cons_drop, if_pos h, List.map_append, List.map_cons, List.map_take, List.map_drop, List.append_assoc]
  rfl
theorem at_all {α : Type} (xs : List α) (P : α → Prop) {i : Int} (hP : ∀ x ∈ xs, P x) (h0 : 0 ≤ i) (h1 : i < xs.length) : ∃ m, atI xs i = some m ∧ P m := by
  obtain ⟨j, rfl⟩ := Int.eq_ofNat_of_zero_le h0
  have hj : j < xs.length := by omega
  exact ⟨xs[j], atI_nat (by simp [hj]), hP _ (List.getElem_mem hj)⟩

local macro_rules | `(tactic| walk_at "at") => `(tactic| first | assumption | with_reducible exact at0 | with_reducible exact at1 | with_reducible exact at2 | with_reducible exact at3 | with_reducible exact at4 | fail)
/-! ### steps: side conditions (sd), what stands at an address (lk, sq), a reading's next steps (rd) -/
local macro_rules | `(tactic| walk_at "ne") => `(tactic| first | assumption | (apply Ne.symm; assumption) | (refine' ne_of_none ?h1 ?h2; (case h1 => assumption); (case h2 => walk_at "fr")) | (refine' ne_of_none upd_same ?h2; (case h2 => walk_at "fr")) | (apply Ne.symm; refine' ne_of_none ?h1 ?h2; (case h1 => assumption); (case h2 => walk_at "fr")) | (apply Ne.symm; refine' ne_of_none upd_same ?h2; (case h2 => walk_at "fr")) | (refine' ne_of_none ?h1 ?h2; (case h2 => assumption); (case h1 => walk_at "lk")) | (apply Ne.symm; refine' ne_of_none ?h1 ?h2; (case h2 => assumption); (case h1 => walk_at "lk")) | fail)
local macro_rules | `(tactic| walk_at "lk") => `(tactic| first | assumption | exact upd_same | (refine' Eq.trans (upd_ne ?h1) ?h2; (case h1 => walk_at "ne"); (case h2 => walk_at "lk")) | (refine' same_at ?h1 ?h2; (case h1 => assumption); (case h2 => walk_at "lk")) | (refine' fr1_at ?h1 ?h2 ?h3; (case h1 => assumption); (case h2 => walk_at "ne"); (case h3 => walk_at "lk")) | fail)
local macro_rules | `(tactic| walk_at "sq") => `(tactic| first | assumption | ((with_reducible refine' SqL.of ?h1); (case h1 => walk_at "lk")) | ((with_reducible refine' SqT.of ?h1); (case h1 => walk_at "lk")) | ((with_reducible refine' Same.seq ?h1 ?h2); (case h1 => assumption); (case h2 => walk_at "sq")) | ((with_reducible refine' Same.seqT ?h1 ?h2); (case h1 => assumption); (case h2 => walk_at "sq")) | fail)
local macro_rules | `(tactic| walk_at "sd") => `(tactic| first | omega | (dsimp only; omega) | (simp only [PySem.Str.length_append]; omega) | with_reducible assumption | assumption | (simp; done) | (simp; omega) | decide | rfl | fail)
local macro_rules | `(tactic| walk_at "sdI") => `(tactic| first | (show (0:Int) < _; walk_at "sd") | exact wide_div (b := 8000) (by walk_at "sd") (by walk_at "sd") (by decide) (by decide) | exact Or.inr ⟨by walk_at "sd", by walk_at "sd"⟩ | exact Or.inl ⟨by walk_at "sd", by walk_at "sd"⟩ | exact ⟨by walk_at "sd", by walk_at "sd", by walk_at "sd"⟩ | walk_at "sd" | fail)
local macro_rules | `(tactic| walk_at "rd0") => `(tactic| first
  | with_reducible refine q_seq ?_ | with_reducible refine q_asg ?_ | with_reducible refine q_op ?_ | ((with_reducible refine' q_var ?h1 ?_); (case h1 => exact rfl)) | with_reducible refine q_c ?_
  | with_reducible refine q_gname ?_ | with_reducible refine q_test ?_ | with_reducible refine q_k ?_ | with_reducible refine q_cons ?_ | with_reducible refine q_nil ?_ | with_reducible refine q_cb ?_ | with_reducible refine q_call0 ?_ | ((with_reducible refine q_call ?_))
  | with_reducible refine q_if ?_ | with_reducible refine q_ret ?_ | with_reducible refine q_retN ?_ | with_reducible refine q_drop ?_ | with_reducible refine q_next ?_ | with_reducible refine q_brk ?_ | with_reducible refine q_cont ?_
  | with_reducible refine q_ifN ?_ | with_reducible refine q_ifA ?_ | with_reducible refine q_ifO ?_ | with_reducible refine q_ift ?_ | with_reducible refine q_iff ?_
  | with_reducible refine q_un ?_ | with_reducible refine q_B ?_ | with_reducible refine q_and ?_ | with_reducible refine q_or ?_ | with_reducible refine q_not ?_ | with_reducible refine q_andV ?_ | with_reducible refine q_orV ?_ | with_reducible refine q_notV ?_ | with_reducible refine q_ifE ?_ | with_reducible refine q_chain ?_
  | with_reducible refine q_gsub ?_ | with_reducible refine q_gnil ?_ | with_reducible refine q_gcons ?_ | with_reducible refine q_fld ?_ | with_reducible refine q_sl ?_ | with_reducible refine q_nopart ?_ | with_reducible refine q_part ?_ | with_reducible refine q_i ?_ | with_reducible refine q_bm ?_
  | with_reducible refine q_lst ?_ | with_reducible refine q_tup ?_ | ((with_reducible refine q_new ?h1 ?_); (case h1 => walk_at "sd"))
  | with_reducible refine q_I0 ?_ | ((with_reducible refine q_I ?h1 ?_); (case h1 => walk_at "sdI")) | with_reducible refine q_U ?_
  | with_reducible refine q_eqI ?_ | with_reducible refine q_eqS ?_ | with_reducible refine q_eqB ?_ | ((with_reducible refine q_eq0 ?h1 ?h2 ?_); (case h1 => rfl); (case h2 => (intro z; cases z)))
  | with_reducible refine q_neI ?_ | with_reducible refine q_neS ?_ | with_reducible refine q_neB ?_ | ((with_reducible refine q_ne0 ?h1 ?h2 ?_); (case h1 => rfl); (case h2 => (intro z; cases z)))
  | with_reducible refine q_isT ?_ | with_reducible refine q_isF ?_ | with_reducible refine q_notT ?_ | with_reducible refine q_notF ?_ | with_reducible refine q_isB ?_ | with_reducible refine q_notB ?_ | with_reducible refine q_isNonT ?_ | ((with_reducible refine q_isNonF ?h1 ?_); (case h1 => (intro z; cases z))) | with_reducible refine q_notNonF ?_ | ((with_reducible refine q_notNonT ?h1 ?_); (case h1 => (intro z; cases z)))
  | ((with_reducible refine' q_ixL ?h1 ?h2 ?_); (case h1 => walk_at "sq"); (case h2 => walk_at "at"))
  | ((with_reducible refine' q_ixT ?h1 ?h2 ?_); (case h1 => walk_at "sq"); (case h2 => walk_at "at"))
  | ((with_reducible refine' q_ixS ?h1 ?h2 ?_); (case h1 => walk_at "sd"); (case h2 => walk_at "at"))
  | ((with_reducible refine' q_setL ?h1 ?h2 ?_); (case h1 => walk_at "lk"); (case h2 => rfl))
  | ((with_reducible refine' q_append ?h1 ?h2 ?_); (case h1 => walk_at "lk"); (case h2 => (refine line_lt ?_; walk_at "sd")))
  | ((with_reducible refine' q_tyL ?h1 ?_); (case h1 => walk_at "lk"))
  | ((with_reducible refine' q_slL ?h1 ?_); (case h1 => walk_at "sq"))
  | ((with_reducible refine' q_cat ?h1 ?h2 ?h3 ?_); (case h1 => walk_at "lk"); (case h2 => walk_at "lk"); (case h3 => (refine line_of ?_; walk_at "sd")))
  | ((with_reducible refine q_addStr ?h1 ?_); (case h1 => (refine line_of ?_; walk_at "sd"))) | with_reducible refine q_ltStr ?_ | ((with_reducible refine' q_leStr1 ?h1 ?h2 ?_); (case h1 => (first | assumption | exact rfl)); (case h2 => (first | assumption | exact rfl))) | with_reducible refine q_leStr ?_ | ((with_reducible refine' q_all ?h1 ?_); (case h1 => walk_at "sq")) | ((with_reducible refine' q_any ?h1 ?_); (case h1 => walk_at "sq")) | with_reducible refine q_inSign ?_
  | ((with_reducible refine q_lenS ?h1 ?_); (case h1 => (refine line_of ?_; walk_at "sd"))) | ((with_reducible refine' q_lenL ?h1 ?_); (case h1 => walk_at "sq")) | ((with_reducible refine' q_lenT ?h1 ?_); (case h1 => walk_at "sq"))
  | ((with_reducible refine q_slS ?h1 ?_); (case h1 => (refine line_of ?_; walk_at "sd"))) | with_reducible refine q_callN ?_ | with_reducible refine q_2 rfl rfl ?_ | with_reducible refine q_make0 ?_ | with_reducible refine q_meth0 ?_
  | with_reducible refine q_for ?_ | with_reducible refine q_lc ?_ | with_reducible refine q_rng1 ?_ | ((with_reducible refine q_rng1b ?h1 ?h2 ?_); (case h1 => walk_at "sd"); (case h2 => walk_at "sd")) | with_reducible refine q_iList ?_ | ((with_reducible refine' q_iListb ?h1 ?_); (case h1 => walk_at "sq")) | with_reducible refine q_iStr ?_ | with_reducible refine q_iStrb ?_
  | ((with_reducible refine' q_listL ?h1 ?_); (case h1 => walk_at "sq")) | ((with_reducible refine' q_listT ?h1 ?_); (case h1 => walk_at "sq")) | ((with_reducible refine' q_tupleL ?h1 ?_); (case h1 => walk_at "sq")) | ((with_reducible refine' q_tupleT ?h1 ?_); (case h1 => walk_at "sq")) | ((with_reducible refine' q_sum ?h1 ?_); (case h1 => walk_at "sq"))
  | ((with_reducible refine' q_eqDt ?h1 ?h2 ?h3 ?h4 ?h5 ?_); (case h1 => walk_at "dp"); (case h2 => walk_at "dp"); (case h3 => exact rfl); (case h4 => exact rfl); (case h5 => walk_at "eqv"))
  | with_reducible refine q_dnewK ?_ | with_reducible refine q_disp ?_ | with_reducible refine q_pairs0 ?_ | with_reducible refine q_pairs ?_
  | ((with_reducible refine' q_isiT ?h1 ?h2 ?h3 ?h4 ?_); (case h1 => walk_at "lk"); (case h2 => walk_at "prd"); (case h3 => walk_at "tyx"); (case h4 => walk_at "kia"))
  | with_reducible refine q_sfld ?_ | ((with_reducible refine' q_sfldb ?h1 ?h2 ?h3 ?h4 ?_); (case h1 => walk_at "lk"); (case h2 => walk_at "cls"); (case h3 => walk_at "noa"); (case h4 => walk_at "sd")) | ((with_reducible refine' q_fldb ?h1 ?h2 ?h3 ?h4 ?_); (case h1 => walk_at "lk"); (case h2 => walk_at "cls"); (case h3 => walk_at "noa"); (case h4 => walk_at "lu"))
  | with_reducible refine q_nn ?_
  | with_reducible refine q_max2 ?_ | with_reducible refine q_min2 ?_
  | ((with_reducible refine' q_isi ?h1 ?h2 ?h3 ?_); (case h1 => (first | exact ClsV.ty _ | exact ClsV.own _)); (case h2 => walk_at "tyx"); (case h3 => walk_at "kit")) | fail)
local macro_rules | `(tactic| walk_at "tyx") => `(tactic| first | assumption | exact .base (.int _) | exact .base (.str _) | exact .base (.bl _) | exact .base .non | exact .base (.lst (by assumption)) | exact .base (.tup (by assumption)) | exact .base (.dK (by assumption)) | walk_at "tya" | walk_at "tyo" | ((with_reducible refine' .base (.lst ?h1)); (case h1 => walk_at "lk")) | ((with_reducible refine' .base (.tup ?h1)); (case h1 => walk_at "lk")) | ((with_reducible refine' .base (.dK ?h1)); (case h1 => walk_at "lk")) | (refine' TyX.mono ?h1 ?h2; (case h1 => assumption); (case h2 => walk_at "sm")) | fail)
local macro_rules | `(tactic| walk_at "kit") => `(tactic| first | assumption | walk_at "kio" | with_reducible exact kt_NoneType_int | with_reducible exact kt_NoneType_str | with_reducible exact kt_NoneType_bool | with_reducible exact kt_NoneType_list | with_reducible exact kt_NoneType_tuple | with_reducible exact kt_NoneType_dict | with_reducible exact kt_bool_int | with_reducible exact kt_bool_str | with_reducible exact kt_bool_bool | with_reducible exact kt_bool_list | with_reducible exact kt_bool_tuple | with_reducible exact kt_bool_dict | with_reducible exact kt_int_int | with_reducible exact kt_int_str | with_reducible exact kt_int_bool | with_reducible exact kt_int_list | with_reducible exact kt_int_tuple | with_reducible exact kt_int_dict | with_reducible exact kt_str_int | with_reducible exact kt_str_str | with_reducible exact kt_str_bool | with_reducible exact kt_str_list | with_reducible exact kt_str_tuple | with_reducible exact kt_str_dict | with_reducible exact kt_list_int | with_reducible exact kt_list_str | with_reducible exact kt_list_bool | with_reducible exact kt_list_list | with_reducible exact kt_list_tuple | with_reducible exact kt_list_dict | with_reducible exact kt_tuple_int | with_reducible exact kt_tuple_str | with_reducible exact kt_tuple_bool | with_reducible exact kt_tuple_list | with_reducible exact kt_tuple_tuple | with_reducible exact kt_tuple_dict | with_reducible exact kt_dict_int | with_reducible exact kt_dict_str | with_reducible exact kt_dict_bool | with_reducible exact kt_dict_list | with_reducible exact kt_dict_tuple | with_reducible exact kt_dict_dict | fail)
local macro_rules | `(tactic| walk_at "rd") => `(tactic| repeat (first | walk_at "rd0" | walk_at "rc" | ((with_reducible refine q_ifd ?h1 ?_); (case h1 => walk_at "cd")) | ((with_reducible refine q_ifn ?h1 ?_); (case h1 => walk_at "cd")) | intro _))
local macro_rules | `(tactic| walk_at "sp") => `(tactic| first | with_reducible refine q_ifx (fun _ => ?_) (fun _ => ?_) | with_reducible refine q_ifs (fun _ => ?_) (fun _ => ?_) | fail)
local macro_rules | `(tactic| walk_at "rdx") => `(tactic| (walk_at "rd"; (try (walk_at "sp" <;> walk_at "rdx"))))
local macro_rules | `(tactic| walk_at "sv") => `(tactic| first | rfl | (simp_all; done) | (simp_all; omega) | (simp_all <;> intros <;> omega) | (simp; omega) | fail)
local macro_rules | `(tactic| walk_at "dp") => `(tactic| first | assumption | exact Dp.int _ | exact Dp.bl _ | exact Dp.str _ | exact Dp.non | ((with_reducible refine' Dp.lst ?h1 ?h2); (case h1 => walk_at "sq"); (case h2 => walk_at "dps")) | ((with_reducible refine' Dp.tup ?h1 ?h2); (case h1 => walk_at "sq"); (case h2 => walk_at "dps")) | fail)
local macro_rules | `(tactic| walk_at "dps") => `(tactic| first | assumption | exact DpAll.nil | ((with_reducible refine' DpAll.cons ?h1 ?h2); (case h1 => walk_at "dp"); (case h2 => walk_at "dps")) | fail)
local macro_rules | `(tactic| walk_at "rf") => `(tactic| first | assumption | exact cs_0 | exact cs_9 | exact cs_a | exact cs_z | exact rfl | fail)
local macro_rules | `(tactic| walk_at "fr") => `(tactic| first | assumption | exact upd_free (by assumption) | exact upd_free (upd_free (by assumption)) | exact upd_free (upd_free (upd_free (by assumption))) | exact upd_free (upd_free (upd_free (upd_free (by assumption)))) | exact upd_free (upd_free (upd_free (upd_free (upd_free (by assumption))))) | exact upd_free (upd_free (upd_free (upd_free (upd_free (upd_free (by assumption)))))) | exact upd_free (upd_free (upd_free (upd_free (upd_free (upd_free (upd_free (by assumption))))))) | exact upd_free (upd_free (upd_free (upd_free (upd_free (upd_free (upd_free (upd_free (by assumption)))))))) | exact upd_free (upd_free (upd_free (upd_free (upd_free (upd_free (upd_free (upd_free (upd_free (by assumption))))))))) | exact upd_free (upd_free (upd_free (upd_free (upd_free (upd_free (upd_free (upd_free (upd_free (upd_free (by assumption)))))))))) | exact upd_free (upd_free (upd_free (upd_free (upd_free (upd_free (upd_free (upd_free (upd_free (upd_free (upd_free (by assumption))))))))))) | exact upd_free (upd_free (upd_free (upd_free (upd_free (upd_free (upd_free (upd_free (upd_free (upd_free (upd_free (upd_free (by assumption)))))))))))) | exact upd_free (upd_free (upd_free (upd_free (upd_free (upd_free (upd_free (upd_free (upd_free (upd_free (upd_free (upd_free (upd_free (by assumption))))))))))))) | exact upd_free (upd_free (upd_free (upd_free (upd_free (upd_free (upd_free (upd_free (upd_free (upd_free (upd_free (upd_free (upd_free (upd_free (by assumption)))))))))))))) | exact upd_free (upd_free (upd_free (upd_free (upd_free (upd_free (upd_free (upd_free (upd_free (upd_free (upd_free (upd_free (upd_free (upd_free (upd_free (by assumption))))))))))))))) | (refine' Same.free ?h1 ?h2; (case h1 => assumption); (case h2 => walk_at "fr")) | fail)
local macro_rules | `(tactic| walk_at "sm") => `(tactic| first | assumption | exact Same.refl _ | (refine Same.snew ?h1 ?h2; (case h2 => walk_at "fr"); (case h1 => walk_at "sm")) | (refine' Same.fr1 ?h1 ?h2 ?h3; (case h2 => assumption); (case h3 => walk_at "fr"); (case h1 => walk_at "sm")) | (refine' Same.trans ?h1 ?h2; (case h2 => assumption); (case h1 => walk_at "sm")) | fail)
local macro_rules | `(tactic| walk_at "eqv") => `(tactic| first | (simp [PyData.eqv, PyData.eqvAll, *]; done) | (simp_all [PyData.eqv, PyData.eqvAll]; done) | fail)
local macro_rules | `(tactic| walk_at "prd") => `(tactic| first | exact Paired.nil | (refine' Paired.cons ?h1 ?h2; (case h1 => (first | exact ClsV.ty _ | exact ClsV.own _)); (case h2 => walk_at "prd")) | fail)
local macro_rules | `(tactic| walk_at "kia") => `(tactic| first | assumption | exact ka_nil | exact ka_t (by walk_at "kit") | (refine ka_f (by walk_at "kit") ?_; walk_at "kia") | fail)
local macro_rules | `(tactic| walk_at "lu") => `(tactic| first | assumption | with_reducible exact lu_hd | (refine Eq.trans (lu_tl (by decide +kernel)) ?_; walk_at "lu") | fail)
local macro_rules | `(tactic| walk_at "nn") => `(tactic| first | assumption | exact NN.nil | (refine NN.cons (by walk_at "sd") ?_; walk_at "nn") | fail)
local macro_rules | `(tactic| walk_at "rdn") => `(tactic| repeat (first | walk_at "rd0" | walk_at "rc" | ((with_reducible refine q_ifd ?h1 ?_); (case h1 => walk_at "cd")) | ((with_reducible refine q_ifn ?h1 ?_); (case h1 => walk_at "cd"))))

local macro_rules | `(tactic| walk_at "as") => `(tactic| first | assumption | fail)
local macro_rules | `(tactic| walk_at "lun") => `(tactic| first | assumption | exact lu_nil | (refine lu_tlN (by decide +kernel) ?_; walk_at "lun") | fail)
local macro_rules | `(tactic| walk_at "xm") => `(tactic| first
  | walk_at "xm1"
  | (refine' Eq.trans (xa_cons ?h1 (xa_cons ?h2 xa_nil)) ?h3; (case h1 => walk_at "xm1"); (case h2 => walk_at "xm1"); (case h3 => exact rfl))
  | (refine' Eq.trans (xa_cons ?h1 (xa_cons ?h2 (xa_cons ?h4 xa_nil))) ?h3; (case h1 => walk_at "xm1"); (case h2 => walk_at "xm1"); (case h4 => walk_at "xm1"); (case h3 => exact rfl))
  | (refine' Eq.trans (xa_cons ?h1 (xa_cons ?h2 (xa_cons ?h4 (xa_cons ?h5 xa_nil)))) ?h3; (case h1 => walk_at "xm1"); (case h2 => walk_at "xm1"); (case h4 => walk_at "xm1"); (case h5 => walk_at "xm1"); (case h3 => exact rfl)) | fail)
local macro_rules | `(tactic| walk_at "e1") => `(tactic| first | assumption | exact E1.same _ | exact e1_str | exact e1_int | exact e1_bl | exact e1_non | fail)
local macro_rules | `(tactic| walk_at "e1s") => `(tactic| first | assumption | exact E1s.nil | ((with_reducible refine' E1s.cons ?h1 ?h2); (case h1 => walk_at "e1"); (case h2 => walk_at "e1s")) | fail)
local macro_rules | `(tactic| walk_at "rd0") => `(tactic| first
  | with_reducible refine q_raise ?_ | with_reducible refine q_try ?_ | with_reducible refine q_wE ?_
  | ((with_reducible refine' q_clN ?h1 ?_); (case h1 => walk_at "xm")) | ((with_reducible refine' q_clN0 ?h1 ?_); (case h1 => walk_at "xm"))
  | ((with_reducible refine' q_clP ?h1 ?_); (case h1 => walk_at "xm")) | ((with_reducible refine' q_clP0 ?h1 ?_); (case h1 => walk_at "xm"))
  | with_reducible refine q_xg ?_ | ((with_reducible refine' q_xgb ?h1 ?h2 ?h3 ?h4 ?_); (case h1 => walk_at "lk"); (case h2 => walk_at "xf"); (case h3 => walk_at "xn"); (case h4 => walk_at "lu"))
  | ((with_reducible refine' q_isX ?h1 ?h2 ?h3 ?h4 ?_); (case h1 => walk_at "lk"); (case h2 => walk_at "xc"); (case h3 => (first | exact ClsV.ty _ | exact ClsV.own _)); (case h4 => walk_at "kit"))
  | with_reducible refine q_callSD ?_ | with_reducible refine q_methE ?_ | with_reducible refine q_makeE ?_ | ((with_reducible refine' q_methb ?h1 ?h2 ?_); (case h1 => walk_at "lk"); (case h2 => walk_at "lun"))
  | ((with_reducible refine' q_lenO ?h1 ?_); (case h1 => walk_at "lk")) | ((with_reducible refine' q_lenI ?h1 ?h2 ?_); (case h1 => walk_at "sd"); (case h2 => walk_at "sd"))
  | ((with_reducible refine' q_eqO ?h1 ?h2 ?_); (case h1 => walk_at "lk"); (case h2 => walk_at "lk")) | with_reducible refine q_bz ?_
  | ((with_reducible refine' q_fldP ?h1 ?h2 ?h3 ?h4 ?_); (case h1 => walk_at "lk"); (case h2 => walk_at "cls"); (case h3 => walk_at "noa"); (case h4 => walk_at "lu"))
  | ((with_reducible refine' q_eqTI ?h1 ?h2 ?_); (case h1 => walk_at "sq"); (case h2 => walk_at "sq")) | ((with_reducible refine' q_neTI ?h1 ?h2 ?_); (case h1 => walk_at "sq"); (case h2 => walk_at "sq")) | ((with_reducible refine' q_eqLI ?h1 ?h2 ?_); (case h1 => walk_at "sq"); (case h2 => walk_at "sq")) | ((with_reducible refine' q_neLI ?h1 ?h2 ?_); (case h1 => walk_at "sq"); (case h2 => walk_at "sq"))
  | with_reducible refine q_revL ?_ | ((with_reducible refine' q_revLb ?h1 ?_); (case h1 => walk_at "sq")) | with_reducible refine q_iTup ?_ | ((with_reducible refine' q_iTupb ?h1 ?_); (case h1 => walk_at "sq"))
  | with_reducible refine q_intB ?_ | with_reducible refine q_intI ?_ | with_reducible refine q_yes ?_ | ((with_reducible refine' q_ixL ?h1 ?h2 ?_); (case h1 => walk_at "sq"); (case h2 => (refine atI_map ?_; walk_at "sd")))
  | with_reducible refine q_zipA ?_ | ((with_reducible refine' q_zipT ?h1 ?h2 ?_); (case h1 => walk_at "sq"); (case h2 => walk_at "sq")) | ((with_reducible refine' q_gtup ?h1 ?h2 ?_); (case h1 => walk_at "sq"); (case h2 => exact rfl))
  | ((with_reducible refine' q_neXT ?h1 ?h2 ?h3 ?_); (case h1 => walk_at "sq"); (case h2 => walk_at "sq"); (case h3 => walk_at "e1s")) | ((with_reducible refine' q_eqXT ?h1 ?h2 ?h3 ?_); (case h1 => walk_at "sq"); (case h2 => walk_at "sq"); (case h3 => walk_at "e1s")) | fail)
local macro_rules | `(tactic| walk_at "sd") => `(tactic| first | omega | (simp only [List.length_map, List.length_range, List.length_cons, List.length_nil, List.length_append, List.length_zip, List.length_zipWith] at *; omega) | fail)
local macro_rules | `(tactic| walk_at "cd") => `(tactic| first | assumption | omega | (simp only [List.length_map, List.length_range, List.length_cons, List.length_nil, List.length_append]; omega) | with_reducible decide | exact rfl | fail)

local macro_rules | `(tactic| walk_at "at") => `(tactic| first | with_reducible exact at0z | with_reducible exact at1z | with_reducible exact at2z | fail)

local macro_rules | `(tactic| walk_at "rd0") => `(tactic| first
  | with_reducible refine q_meth0 ?_ | with_reducible refine q_methd ?_ | with_reducible refine q_methE ?_ | with_reducible refine q_methEd ?_ | with_reducible refine q_methN ?_ | with_reducible refine q_enumT ?_ | ((with_reducible refine' q_enumTb ?h1 ?_); (case h1 => walk_at "sq"))
  | ((with_reducible refine' q_insert ?h1 ?h2 ?h3 ?h4 ?_); (case h1 => walk_at "lk"); (case h2 => (refine line_lt ?_; walk_at "sd")); (case h3 => walk_at "sd"); (case h4 => walk_at "sd"))
  | ((with_reducible refine' q_ixL ?h1 ?h2 ?_); (case h1 => walk_at "sq"); (case h2 => ((with_reducible refine atI_mapN ?_); walk_at "sd")))
  | ((with_reducible refine' q_ixT ?h1 ?h2 ?_); (case h1 => walk_at "sq"); (case h2 => ((with_reducible refine atI_mapN ?_); walk_at "sd")))
  | ((with_reducible refine' q_inI ?h1 ?_); (case h1 => walk_at "sq")) | fail)

def topS (i : Nat) : Stmt := PySem.Challenge.pw_causehall_k04_changes.main.body.getD i (.Pass ⟨0, 0, 0, 0⟩)

abbrev s_is_whole : Stmt := topS 8
theorem sc_is_whole : FnScope ["thing", "low", "high"] ["thing", "low", "high"] (defScope s_is_whole) := ⟨rfl, rfl, rfl, by decide +kernel, rfl, by decide +kernel, by decide +kernel⟩
abbrev s_is_list : Stmt := topS 12
theorem sc_is_list : FnScope ["thing"] ["thing"] (defScope s_is_list) := ⟨rfl, rfl, rfl, by decide +kernel, rfl, by decide +kernel, by decide +kernel⟩
abbrev s_is_member : Stmt := topS 13
theorem sc_is_member : FnScope ["thing", "members"] ["thing", "members"] (defScope s_is_member) := ⟨rfl, rfl, rfl, by decide +kernel, rfl, by decide +kernel, by decide +kernel⟩
abbrev s_check_member : Stmt := topS 15
theorem sc_check_member : FnScope ["member", "members"] ["member", "members"] (defScope s_check_member) := ⟨rfl, rfl, rfl, by decide +kernel, rfl, by decide +kernel, by decide +kernel⟩
abbrev s_are_changes : Stmt := topS 14
theorem sc_are_changes : FnScope ["thing", "members", "low", "high", "changed", "change", "member", "count"] ["thing", "members", "low", "high"] (defScope s_are_changes) := ⟨rfl, rfl, rfl, by decide +kernel, rfl, by decide +kernel, by decide +kernel⟩
abbrev s_Counts_init : Stmt := inClass (topS 17) 0
theorem sc_Counts_init : FnScope ["self", "numbers", "number"] ["self", "numbers"] (defScope s_Counts_init) := ⟨rfl, rfl, rfl, by decide +kernel, rfl, by decide +kernel, by decide +kernel⟩
abbrev s_Counts_len : Stmt := inClass (topS 17) 1
theorem sc_Counts_len : FnScope ["self"] ["self"] (defScope s_Counts_len) := ⟨rfl, rfl, rfl, by decide +kernel, rfl, by decide +kernel, by decide +kernel⟩
abbrev s_Counts_told : Stmt := inClass (topS 17) 5
theorem sc_Counts_told : FnScope ["self"] ["self"] (defScope s_Counts_told) := ⟨rfl, rfl, rfl, by decide +kernel, rfl, by decide +kernel, by decide +kernel⟩
abbrev s_Counts_eq : Stmt := inClass (topS 17) 2
theorem sc_Counts_eq : FnScope ["self", "other"] ["self", "other"] (defScope s_Counts_eq) := ⟨rfl, rfl, rfl, by decide +kernel, rfl, by decide +kernel, by decide +kernel⟩
abbrev s_Counts_of : Stmt := inClass (topS 17) 6
theorem sc_Counts_of : FnScope ["self", "member"] ["self", "member"] (defScope s_Counts_of) := ⟨rfl, rfl, rfl, by decide +kernel, rfl, by decide +kernel, by decide +kernel⟩
abbrev s_Counts_changed : Stmt := inClass (topS 17) 14
theorem sc_Counts_changed : FnScope ["self", "changes", "numbers", "member", "count"] ["self", "changes"] (defScope s_Counts_changed) := ⟨rfl, rfl, rfl, by decide +kernel, rfl, by decide +kernel, by decide +kernel⟩
abbrev s_Counts_raised : Stmt := inClass (topS 17) 12
theorem sc_Counts_raised : FnScope ["self", "member", "by"] ["self", "member", "by"] (defScope s_Counts_raised) := ⟨rfl, rfl, rfl, by decide +kernel, rfl, by decide +kernel, by decide +kernel⟩
abbrev s_Counts_check_like : Stmt := inClass (topS 17) 15
theorem sc_Counts_check_like : FnScope ["self", "other"] ["self", "other"] (defScope s_Counts_check_like) := ⟨rfl, rfl, rfl, by decide +kernel, rfl, by decide +kernel, by decide +kernel⟩
abbrev s_Counts_changes_from : Stmt := inClass (topS 17) 13
theorem sc_Counts_changes_from : FnScope ["self", "other", "member", "number"] ["self", "other"] (defScope s_Counts_changes_from) := ⟨rfl, rfl, rfl, by decide +kernel, rfl, by decide +kernel, by decide +kernel⟩
abbrev s_law_take : Stmt := topS 20
theorem sc_law_take : FnScope ["pool", "size", "found"] ["pool", "size"] (defScope s_law_take) := ⟨rfl, rfl, rfl, by decide +kernel, rfl, by decide +kernel, by decide +kernel⟩
abbrev s_law_pool : Stmt := topS 19
theorem sc_law_pool : FnScope ["cell", "number", "k", "mix"] ["cell"] (defScope s_law_pool) := ⟨rfl, rfl, rfl, by decide +kernel, rfl, by decide +kernel, by decide +kernel⟩
abbrev s_law_numbers : Stmt := topS 21
theorem sc_law_numbers : FnScope ["pool", "members", "size", "k"] ["pool", "members"] (defScope s_law_numbers) := ⟨rfl, rfl, rfl, by decide +kernel, rfl, by decide +kernel, by decide +kernel⟩
abbrev s_law_near : Stmt := topS 22
theorem sc_law_near : FnScope ["row", "pool", "other", "number", "step"] ["row", "pool"] (defScope s_law_near) := ⟨rfl, rfl, rfl, by decide +kernel, rfl, by decide +kernel, by decide +kernel⟩
abbrev s_law_first : Stmt := topS 23
theorem sc_law_first : FnScope ["deed", "counts", "things", "e", "word"] ["deed", "counts", "things"] (defScope s_law_first) := ⟨rfl, rfl, rfl, by decide +kernel, rfl, by decide +kernel, by decide +kernel⟩
abbrev s_law_refused : Stmt := topS 24
theorem sc_law_refused : FnScope ["deed", "counts", "things", "at", "thing", "k"] ["deed", "counts", "things", "at", "thing"] (defScope s_law_refused) := ⟨rfl, rfl, rfl, by decide +kernel, rfl, by decide +kernel, by decide +kernel⟩
abbrev s_law_raised : Stmt := topS 25
theorem sc_law_raised : FnScope ["counts", "row", "pool", "member", "step", "some", "told", "more", "due", "thing", "far"] ["counts", "row", "pool"] (defScope s_law_raised) := ⟨rfl, rfl, rfl, by decide +kernel, rfl, by decide +kernel, by decide +kernel⟩
abbrev s_law_from : Stmt := topS 26
theorem sc_law_from : FnScope ["counts", "row", "rival", "other", "told", "due", "thing", "unlike", "k", "change"] ["counts", "row", "rival", "other"] (defScope s_law_from) := ⟨rfl, rfl, rfl, by decide +kernel, rfl, by decide +kernel, by decide +kernel⟩
abbrev s_law_some : Stmt := topS 27
theorem sc_law_some : FnScope ["row", "pool", "some", "k", "number"] ["row", "pool"] (defScope s_law_some) := ⟨rfl, rfl, rfl, by decide +kernel, rfl, by decide +kernel, by decide +kernel⟩
abbrev s_law_changed : Stmt := topS 28
theorem sc_law_changed : FnScope ["counts", "row", "pool", "some", "due", "member", "number", "handed", "told", "at", "bad", "thing", "spoilt", "flat", "twice"] ["counts", "row", "pool"] (defScope s_law_changed) := ⟨rfl, rfl, rfl, by decide +kernel, rfl, by decide +kernel, by decide +kernel⟩
abbrev s_law : Stmt := topS 29
theorem sc_law : FnScope ["script", "cell", "pool", "way", "members", "row", "other", "counts", "rival"] ["script"] (defScope s_law) := ⟨rfl, rfl, rfl, by decide +kernel, rfl, by decide +kernel, by decide +kernel⟩
structure Tx (K : PySem.W.Frag) (mg : Str → Option Value) where
  f_is_whole : Addr
  d_is_whole : FuncData
  F_is_whole : FunD K "is_whole" "is_whole" (defArgs s_is_whole) (defBody s_is_whole) (defScope s_is_whole) [.non] [] f_is_whole d_is_whole
  m_is_whole : mg "is_whole" = some (.ref f_is_whole)
  k_is_whole : PySem.W.keepIn K (.ref f_is_whole) = true
  ds_is_whole_2 : List Value
  v_is_whole_2 : Vals [.non] ds_is_whole_2
  b_is_whole_2 : Binds K d_is_whole ["thing", "low", "high"] ds_is_whole_2
  b_is_whole : Binds K d_is_whole ["thing", "low", "high"] []
  f_is_list : Addr
  d_is_list : FuncData
  F_is_list : Fun K "is_list" "is_list" s_is_list f_is_list d_is_list
  m_is_list : mg "is_list" = some (.ref f_is_list)
  k_is_list : PySem.W.keepIn K (.ref f_is_list) = true
  b_is_list : Binds K d_is_list ["thing"] []
  f_is_member : Addr
  d_is_member : FuncData
  F_is_member : Fun K "is_member" "is_member" s_is_member f_is_member d_is_member
  m_is_member : mg "is_member" = some (.ref f_is_member)
  k_is_member : PySem.W.keepIn K (.ref f_is_member) = true
  b_is_member : Binds K d_is_member ["thing", "members"] []
  f_check_member : Addr
  d_check_member : FuncData
  F_check_member : Fun K "check_member" "check_member" s_check_member f_check_member d_check_member
  m_check_member : mg "check_member" = some (.ref f_check_member)
  k_check_member : PySem.W.keepIn K (.ref f_check_member) = true
  b_check_member : Binds K d_check_member ["member", "members"] []
  f_are_changes : Addr
  d_are_changes : FuncData
  F_are_changes : FunD K "are_changes" "are_changes" (defArgs s_are_changes) (defBody s_are_changes) (defScope s_are_changes) [.non] [] f_are_changes d_are_changes
  m_are_changes : mg "are_changes" = some (.ref f_are_changes)
  k_are_changes : PySem.W.keepIn K (.ref f_are_changes) = true
  ds_are_changes_3 : List Value
  v_are_changes_3 : Vals [.non] ds_are_changes_3
  b_are_changes_3 : Binds K d_are_changes ["thing", "members", "low", "high"] ds_are_changes_3
  b_are_changes : Binds K d_are_changes ["thing", "members", "low", "high"] []
  f_Counts_init : Addr
  d_Counts_init : FuncData
  F_Counts_init : Fun K "__init__" "Counts.__init__" s_Counts_init f_Counts_init d_Counts_init
  b_Counts_init : Binds K d_Counts_init ["self", "numbers"] []
  f_Counts_len : Addr
  d_Counts_len : FuncData
  F_Counts_len : Fun K "__len__" "Counts.__len__" s_Counts_len f_Counts_len d_Counts_len
  b_Counts_len : Binds K d_Counts_len ["self"] []
  f_Counts_told : Addr
  d_Counts_told : FuncData
  F_Counts_told : Fun K "told" "Counts.told" s_Counts_told f_Counts_told d_Counts_told
  b_Counts_told : Binds K d_Counts_told ["self"] []
  f_Counts_eq : Addr
  d_Counts_eq : FuncData
  F_Counts_eq : Fun K "__eq__" "Counts.__eq__" s_Counts_eq f_Counts_eq d_Counts_eq
  b_Counts_eq : Binds K d_Counts_eq ["self", "other"] []
  f_Counts_of : Addr
  d_Counts_of : FuncData
  F_Counts_of : Fun K "of" "Counts.of" s_Counts_of f_Counts_of d_Counts_of
  b_Counts_of : Binds K d_Counts_of ["self", "member"] []
  f_Counts_changed : Addr
  d_Counts_changed : FuncData
  F_Counts_changed : Fun K "changed" "Counts.changed" s_Counts_changed f_Counts_changed d_Counts_changed
  b_Counts_changed : Binds K d_Counts_changed ["self", "changes"] []
  f_Counts_raised : Addr
  d_Counts_raised : FuncData
  F_Counts_raised : FunD K "raised" "Counts.raised" (defArgs s_Counts_raised) (defBody s_Counts_raised) (defScope s_Counts_raised) [.int 1] [] f_Counts_raised d_Counts_raised
  ds_Counts_raised_2 : List Value
  v_Counts_raised_2 : Vals [.int 1] ds_Counts_raised_2
  b_Counts_raised_2 : Binds K d_Counts_raised ["self", "member", "by"] ds_Counts_raised_2
  b_Counts_raised : Binds K d_Counts_raised ["self", "member", "by"] []
  kb_Counts_raised_2_by : KBn K d_Counts_raised ["self", "member", "by"] 2 ["by"] (fun us ws => us ++ ws) (fun vs zs => vs ++ zs)
  f_Counts_check_like : Addr
  d_Counts_check_like : FuncData
  F_Counts_check_like : Fun K "_check_like" "Counts._check_like" s_Counts_check_like f_Counts_check_like d_Counts_check_like
  b_Counts_check_like : Binds K d_Counts_check_like ["self", "other"] []
  f_Counts_changes_from : Addr
  d_Counts_changes_from : FuncData
  F_Counts_changes_from : Fun K "changes_from" "Counts.changes_from" s_Counts_changes_from f_Counts_changes_from d_Counts_changes_from
  b_Counts_changes_from : Binds K d_Counts_changes_from ["self", "other"] []
  f_law_take : Addr
  d_law_take : FuncData
  F_law_take : Fun K "_law_take" "_law_take" s_law_take f_law_take d_law_take
  m_law_take : mg "_law_take" = some (.ref f_law_take)
  k_law_take : PySem.W.keepIn K (.ref f_law_take) = true
  b_law_take : Binds K d_law_take ["pool", "size"] []
  f_law_pool : Addr
  d_law_pool : FuncData
  F_law_pool : Fun K "_law_pool" "_law_pool" s_law_pool f_law_pool d_law_pool
  m_law_pool : mg "_law_pool" = some (.ref f_law_pool)
  k_law_pool : PySem.W.keepIn K (.ref f_law_pool) = true
  b_law_pool : Binds K d_law_pool ["cell"] []
  f_law_numbers : Addr
  d_law_numbers : FuncData
  F_law_numbers : Fun K "_law_numbers" "_law_numbers" s_law_numbers f_law_numbers d_law_numbers
  m_law_numbers : mg "_law_numbers" = some (.ref f_law_numbers)
  k_law_numbers : PySem.W.keepIn K (.ref f_law_numbers) = true
  b_law_numbers : Binds K d_law_numbers ["pool", "members"] []
  f_law_near : Addr
  d_law_near : FuncData
  F_law_near : Fun K "_law_near" "_law_near" s_law_near f_law_near d_law_near
  m_law_near : mg "_law_near" = some (.ref f_law_near)
  k_law_near : PySem.W.keepIn K (.ref f_law_near) = true
  b_law_near : Binds K d_law_near ["row", "pool"] []
  f_law_first : Addr
  d_law_first : FuncData
  F_law_first : Fun K "_law_first" "_law_first" s_law_first f_law_first d_law_first
  m_law_first : mg "_law_first" = some (.ref f_law_first)
  k_law_first : PySem.W.keepIn K (.ref f_law_first) = true
  b_law_first : Binds K d_law_first ["deed", "counts", "things"] []
  f_law_refused : Addr
  d_law_refused : FuncData
  F_law_refused : Fun K "_law_refused" "_law_refused" s_law_refused f_law_refused d_law_refused
  m_law_refused : mg "_law_refused" = some (.ref f_law_refused)
  k_law_refused : PySem.W.keepIn K (.ref f_law_refused) = true
  b_law_refused : Binds K d_law_refused ["deed", "counts", "things", "at", "thing"] []
  f_law_raised : Addr
  d_law_raised : FuncData
  F_law_raised : Fun K "_law_raised" "_law_raised" s_law_raised f_law_raised d_law_raised
  m_law_raised : mg "_law_raised" = some (.ref f_law_raised)
  k_law_raised : PySem.W.keepIn K (.ref f_law_raised) = true
  b_law_raised : Binds K d_law_raised ["counts", "row", "pool"] []
  f_law_from : Addr
  d_law_from : FuncData
  F_law_from : Fun K "_law_from" "_law_from" s_law_from f_law_from d_law_from
  m_law_from : mg "_law_from" = some (.ref f_law_from)
  k_law_from : PySem.W.keepIn K (.ref f_law_from) = true
  b_law_from : Binds K d_law_from ["counts", "row", "rival", "other"] []
  f_law_some : Addr
  d_law_some : FuncData
  F_law_some : Fun K "_law_some" "_law_some" s_law_some f_law_some d_law_some
  m_law_some : mg "_law_some" = some (.ref f_law_some)
  k_law_some : PySem.W.keepIn K (.ref f_law_some) = true
  b_law_some : Binds K d_law_some ["row", "pool"] []
  f_law_changed : Addr
  d_law_changed : FuncData
  F_law_changed : Fun K "_law_changed" "_law_changed" s_law_changed f_law_changed d_law_changed
  m_law_changed : mg "_law_changed" = some (.ref f_law_changed)
  k_law_changed : PySem.W.keepIn K (.ref f_law_changed) = true
  b_law_changed : Binds K d_law_changed ["counts", "row", "pool"] []
  f_law : Addr
  d_law : FuncData
  F_law : Fun K "law" "law" s_law f_law d_law
  m_law : mg "law" = some (.ref f_law)
  k_law : PySem.W.keepIn K (.ref f_law) = true
  b_law : Binds K d_law ["script"] []
  C_Counts : Addr
  g_Counts : mg "Counts" = some (.ref C_Counts)
  c_Counts : Cls K C_Counts
  ha_Counts : PySem.W.findIn K (.ref C_Counts) "__class__" = some (some (.builtin "object.__class__"))
  hm_Counts : PySem.W.mroIn K C_Counts (.type "object") = some true
  hdx_Counts : PySem.W.hasDictIn K C_Counts = true
  ty_Counts : PySem.W.typeIn K (.ref C_Counts) = some (.type "type")
  nt_NoneType_Counts : PySem.W.subIn K (.type "NoneType") (.ref C_Counts) = some false
  nt_bool_Counts : PySem.W.subIn K (.type "bool") (.ref C_Counts) = some false
  nt_int_Counts : PySem.W.subIn K (.type "int") (.ref C_Counts) = some false
  nt_str_Counts : PySem.W.subIn K (.type "str") (.ref C_Counts) = some false
  nt_list_Counts : PySem.W.subIn K (.type "list") (.ref C_Counts) = some false
  nt_tuple_Counts : PySem.W.subIn K (.type "tuple") (.ref C_Counts) = some false
  nt_dict_Counts : PySem.W.subIn K (.type "dict") (.ref C_Counts) = some false
  n_Counts__numbers : NoAttr K C_Counts "_numbers"
  mk_Counts : Mk K C_Counts f_Counts_init
  mt_Counts_len : Meth K C_Counts "__len__" f_Counts_len
  mt_Counts_told : Meth K C_Counts "told" f_Counts_told
  mt_Counts_eq : Meth K C_Counts "__eq__" f_Counts_eq
  mt_Counts_of : Meth K C_Counts "of" f_Counts_of
  mt_Counts_changed : Meth K C_Counts "changed" f_Counts_changed
  mt_Counts_raised : Meth K C_Counts "raised" f_Counts_raised
  mt_Counts_check_like : Meth K C_Counts "_check_like" f_Counts_check_like
  mt_Counts_changes_from : Meth K C_Counts "changes_from" f_Counts_changes_from
  C_HallError : Addr
  g_HallError : mg "HallError" = some (.ref C_HallError)
  C_NoCounts : Addr
  g_NoCounts : mg "NoCounts" = some (.ref C_NoCounts)
  C_NoMember : Addr
  g_NoMember : mg "NoMember" = some (.ref C_NoMember)
  C_NoNumber : Addr
  g_NoNumber : mg "NoNumber" = some (.ref C_NoNumber)
  C_Unlike : Addr
  g_Unlike : mg "Unlike" = some (.ref C_Unlike)
  exC_HallError : PySem.W.subIn K (.ref C_HallError) (.type "BaseException") = some true
  hdx_HallError : PySem.W.hasDictIn K C_HallError = true
  ty_HallError : PySem.W.typeIn K (.ref C_HallError) = some (.type "type")
  ss_HallError : PySem.W.subIn K (.ref C_HallError) (.ref C_HallError) = some true
  exC_NoCounts : PySem.W.subIn K (.ref C_NoCounts) (.type "BaseException") = some true
  hdx_NoCounts : PySem.W.hasDictIn K C_NoCounts = true
  ty_NoCounts : PySem.W.typeIn K (.ref C_NoCounts) = some (.type "type")
  ss_NoCounts : PySem.W.subIn K (.ref C_NoCounts) (.ref C_NoCounts) = some true
  exC_NoMember : PySem.W.subIn K (.ref C_NoMember) (.type "BaseException") = some true
  hdx_NoMember : PySem.W.hasDictIn K C_NoMember = true
  ty_NoMember : PySem.W.typeIn K (.ref C_NoMember) = some (.type "type")
  ss_NoMember : PySem.W.subIn K (.ref C_NoMember) (.ref C_NoMember) = some true
  exC_NoNumber : PySem.W.subIn K (.ref C_NoNumber) (.type "BaseException") = some true
  hdx_NoNumber : PySem.W.hasDictIn K C_NoNumber = true
  ty_NoNumber : PySem.W.typeIn K (.ref C_NoNumber) = some (.type "type")
  ss_NoNumber : PySem.W.subIn K (.ref C_NoNumber) (.ref C_NoNumber) = some true
  exC_Unlike : PySem.W.subIn K (.ref C_Unlike) (.type "BaseException") = some true
  hdx_Unlike : PySem.W.hasDictIn K C_Unlike = true
  ty_Unlike : PySem.W.typeIn K (.ref C_Unlike) = some (.type "type")
  ss_Unlike : PySem.W.subIn K (.ref C_Unlike) (.ref C_Unlike) = some true
  fI_NoCounts : Addr
  ox_NoCounts : OexS K C_NoCounts fI_NoCounts "ValueError" "ValueError.__new__" "ValueError.__init__" veT "found"
  xf_NoCounts : XfC K C_NoCounts
  xc_NoCounts : ExcC K C_NoCounts
  nf_NoCounts : PySem.W.findIn K (.ref C_NoCounts) "found" = some none
  sb_NoCounts_HallError : PySem.W.subIn K (.ref C_NoCounts) (.ref C_HallError) = some true
  sb_NoCounts_NoCounts : PySem.W.subIn K (.ref C_NoCounts) (.ref C_NoCounts) = some true
  sb_NoCounts_NoMember : PySem.W.subIn K (.ref C_NoCounts) (.ref C_NoMember) = some false
  sb_NoCounts_NoNumber : PySem.W.subIn K (.ref C_NoCounts) (.ref C_NoNumber) = some false
  sb_NoCounts_Unlike : PySem.W.subIn K (.ref C_NoCounts) (.ref C_Unlike) = some false
  fI_NoMember : Addr
  ox_NoMember : OexS K C_NoMember fI_NoMember "ValueError" "ValueError.__new__" "ValueError.__init__" veT "found"
  xf_NoMember : XfC K C_NoMember
  xc_NoMember : ExcC K C_NoMember
  nf_NoMember : PySem.W.findIn K (.ref C_NoMember) "found" = some none
  sb_NoMember_HallError : PySem.W.subIn K (.ref C_NoMember) (.ref C_HallError) = some true
  sb_NoMember_NoCounts : PySem.W.subIn K (.ref C_NoMember) (.ref C_NoCounts) = some false
  sb_NoMember_NoMember : PySem.W.subIn K (.ref C_NoMember) (.ref C_NoMember) = some true
  sb_NoMember_NoNumber : PySem.W.subIn K (.ref C_NoMember) (.ref C_NoNumber) = some false
  sb_NoMember_Unlike : PySem.W.subIn K (.ref C_NoMember) (.ref C_Unlike) = some false
  fI_NoNumber : Addr
  ox_NoNumber : OexS K C_NoNumber fI_NoNumber "ValueError" "ValueError.__new__" "ValueError.__init__" veT "found"
  xf_NoNumber : XfC K C_NoNumber
  xc_NoNumber : ExcC K C_NoNumber
  nf_NoNumber : PySem.W.findIn K (.ref C_NoNumber) "found" = some none
  sb_NoNumber_HallError : PySem.W.subIn K (.ref C_NoNumber) (.ref C_HallError) = some true
  sb_NoNumber_NoCounts : PySem.W.subIn K (.ref C_NoNumber) (.ref C_NoCounts) = some false
  sb_NoNumber_NoMember : PySem.W.subIn K (.ref C_NoNumber) (.ref C_NoMember) = some false
  sb_NoNumber_NoNumber : PySem.W.subIn K (.ref C_NoNumber) (.ref C_NoNumber) = some true
  sb_NoNumber_Unlike : PySem.W.subIn K (.ref C_NoNumber) (.ref C_Unlike) = some false
  fI_Unlike : Addr
  ox_Unlike : OexS K C_Unlike fI_Unlike "ValueError" "ValueError.__new__" "ValueError.__init__" veT "found"
  xf_Unlike : XfC K C_Unlike
  xc_Unlike : ExcC K C_Unlike
  nf_Unlike : PySem.W.findIn K (.ref C_Unlike) "found" = some none
  sb_Unlike_HallError : PySem.W.subIn K (.ref C_Unlike) (.ref C_HallError) = some true
  sb_Unlike_NoCounts : PySem.W.subIn K (.ref C_Unlike) (.ref C_NoCounts) = some false
  sb_Unlike_NoMember : PySem.W.subIn K (.ref C_Unlike) (.ref C_NoMember) = some false
  sb_Unlike_NoNumber : PySem.W.subIn K (.ref C_Unlike) (.ref C_NoNumber) = some false
  sb_Unlike_Unlike : PySem.W.subIn K (.ref C_Unlike) (.ref C_Unlike) = some true
  hn : PySem.W.specialIn K (.builtin "object.__class__") "__get__" = some (some (.builtin "getset_descriptor.__get__"))
  htk : PySem.W.takesIn K (.builtin "object.__class__") = some true
  ki_Counts : PySem.W.subIn K (.ref C_Counts) (.type "int") = some false
  kl_Counts : PySem.W.subIn K (.ref C_Counts) (.type "list") = some false
  kt_Counts : PySem.W.subIn K (.ref C_Counts) (.type "tuple") = some false
  ne_Counts : PySem.W.findIn K (.ref C_Counts) "__ne__" = some (some (.builtin "object.__ne__"))
  z_all : mg "all" = none
  z_bool : mg "bool" = none
  z_enumerate : mg "enumerate" = none
  z_int : mg "int" = none
  z_isinstance : mg "isinstance" = none
  z_len : mg "len" = none
  z_list : mg "list" = none
  z_max : mg "max" = none
  z_range : mg "range" = none
  z_super : mg "super" = none
  z_tuple : mg "tuple" = none
  t_LEAST_MEMBERS : Tok
  g_LEAST_MEMBERS : mg "LEAST_MEMBERS" = some (.int 2 t_LEAST_MEMBERS)
  t_MOST_MEMBERS : Tok
  g_MOST_MEMBERS : mg "MOST_MEMBERS" = some (.int 5 t_MOST_MEMBERS)
def sp_is_whole (K : PySem.W.Frag) : Sp := fun vs H Q E => (∃ (n a : Int), vs = [.int n, .int a, .non] ∧ Q (.bl (decide (a ≤ n))) H) ∨
  (∃ (n a b : Int), vs = [.int n, .int a, .int b] ∧ Q (.bl (decide (a ≤ n) && decide (n ≤ b))) H) ∨
  (∃ (c : Bool) (y z : V), vs = [.bl c, y, z] ∧ Q (.bl false) H) ∨
  (∃ (x y z : V) (t : Value), vs = [x, y, z] ∧ (TyX K H x t) ∧ (PySem.W.kitOne K t (.type "int") = some false) ∧ Q (.bl false) H)
theorem r_is_whole_1 {K : PySem.W.Frag} {H : Hp} {Q : VK} {E : XK} {vv : List V} {n a : Int} (ee : vv = [.int n, .int a, .non])  (k : Q (.bl (decide (a ≤ n))) H) : sp_is_whole K vv H Q E := by
  subst ee
  exact .inl ⟨n, a, rfl, k⟩
theorem r_is_whole_2 {K : PySem.W.Frag} {H : Hp} {Q : VK} {E : XK} {vv : List V} {n a b : Int} (ee : vv = [.int n, .int a, .int b])  (k : Q (.bl (decide (a ≤ n) && decide (n ≤ b))) H) : sp_is_whole K vv H Q E := by
  subst ee
  exact .inr (.inl ⟨n, a, b, rfl, k⟩)
theorem r_is_whole_3 {K : PySem.W.Frag} {H : Hp} {Q : VK} {E : XK} {vv : List V} {c : Bool} {y z : V} (ee : vv = [.bl c, y, z])  (k : Q (.bl false) H) : sp_is_whole K vv H Q E := by
  subst ee
  exact .inr (.inr (.inl ⟨c, y, z, rfl, k⟩))
theorem r_is_whole_4 {K : PySem.W.Frag} {H : Hp} {Q : VK} {E : XK} {vv : List V} {x y z : V} {t : Value} (ee : vv = [x, y, z]) (ht : TyX K H x t) (hk : PySem.W.kitOne K t (.type "int") = some false) (k : Q (.bl false) H) : sp_is_whole K vv H Q E := by
  subst ee
  exact .inr (.inr (.inr (⟨x, y, z, t, rfl, ht, hk, k⟩)))
/-- what is no member -/
def NotM (K : PySem.W.Frag) (H : Hp) (m : Int) (x : V) : Prop := (∃ n, x = .int n ∧ ¬ (0 ≤ n ∧ n ≤ m - 1)) ∨ (∃ b, x = .bl b) ∨ ∃ t, TyX K H x t ∧ PySem.W.kitOne K t (.type "int") = some false
theorem NotM.same {K : PySem.W.Frag} {H H' : Hp} {m : Int} {x : V} (h : NotM K H m x) (s : Same H H') : NotM K H' m x := by
  rcases h with h | h | ⟨t, h1, h2⟩
  · exact .inl h
  · exact .inr (.inl h)
  · exact .inr (.inr ⟨t, h1.mono s, h2⟩)
theorem NotM.of {K : PySem.W.Frag} {H : Hp} {m : Int} {x : V} {t : Value} (h1 : TyX K H x t) (h2 : PySem.W.kitOne K t (.type "int") = some false) : NotM K H m x := .inr (.inr ⟨t, h1, h2⟩)
/-- what is no whole number from 0 on -/
def NotW0 (K : PySem.W.Frag) (H : Hp) (x : V) : Prop := (∃ n, x = .int n ∧ ¬ 0 ≤ n) ∨ (∃ b, x = .bl b) ∨ ∃ t, TyX K H x t ∧ PySem.W.kitOne K t (.type "int") = some false
theorem NotW0.same {K : PySem.W.Frag} {H H' : Hp} {x : V} (h : NotW0 K H x) (s : Same H H') : NotW0 K H' x := by
  rcases h with h | h | ⟨t, h1, h2⟩
  · exact .inl h
  · exact .inr (.inl h)
  · exact .inr (.inr ⟨t, h1.mono s, h2⟩)
theorem NotW0.of {K : PySem.W.Frag} {H : Hp} {x : V} {t : Value} (h1 : TyX K H x t) (h2 : PySem.W.kitOne K t (.type "int") = some false) : NotW0 K H x := .inr (.inr ⟨t, h1, h2⟩)
/-- what is no change -/
def BadC (K : PySem.W.Frag) (H : Hp) (m : Int) (x : V) : Prop := (∃ ty, TyX K H x ty ∧ PySem.W.kitOne K ty (.type "tuple") = some false) ∨ (∃ t ys, x = .ref t ∧ H t = some (.tup ys) ∧ ys.length ≠ 2 ∧ ys.length ≤ 5) ∨
  (∃ t y z, x = .ref t ∧ H t = some (.tup [y, z]) ∧ NotM K H m y) ∨ ∃ t k z, x = .ref t ∧ H t = some (.tup [.int k, z]) ∧ 0 ≤ k ∧ k ≤ m - 1 ∧ NotW0 K H z
theorem BadC.same {K : PySem.W.Frag} {H H' : Hp} {m : Int} {x : V} (h : BadC K H m x) (s : Same H H') : BadC K H' m x := by
  rcases h with ⟨ty, h1, h2⟩ | ⟨t, ys, e, h1, h2⟩ | ⟨t, y, z, e, h1, h2⟩ | ⟨t, k, z, e, h1, h2, h3, h4⟩
  · exact .inl ⟨ty, h1.mono s, h2⟩
  · exact .inr (.inl ⟨t, ys, e, s _ _ h1, h2⟩)
  · exact .inr (.inr (.inl ⟨t, y, z, e, s _ _ h1, h2.same s⟩))
  · exact .inr (.inr (.inr ⟨t, k, z, e, s _ _ h1, h2, h3, h4.same s⟩))
/-- a thing, and the change that it is, if it is one -/
def ItC (K : PySem.W.Frag) (H : Hp) (m : Int) (x : V) (o : Option (Int × Int)) : Prop := (∃ c : Int × Int, PairAt H x c ∧ 0 ≤ c.1 ∧ c.1 ≤ m - 1 ∧ 0 ≤ c.2 ∧ o = some c) ∨ (o = none ∧ BadC K H m x)
theorem ItC.same {K : PySem.W.Frag} {H H' : Hp} {m : Int} {x : V} {o : Option (Int × Int)} (h : ItC K H m x o) (s : Same H H') : ItC K H' m x o := by
  rcases h with ⟨c, h1, h2⟩ | ⟨h1, h2⟩
  · exact .inl ⟨c, h1.same s, h2⟩
  · exact .inr ⟨h1, h2.same s⟩
/-- whether all are changes, of no member twice, and none of those that were -/
def goC : List Int → List (Option (Int × Int)) → Bool
  | _, [] => true
  | _, none :: _ => false
  | seen, some c :: r => if c.1 ∈ seen then false else goC (seen ++ [c.1]) r
theorem goC_none {seen : List Int} {os : List (Option (Int × Int))} (h : none ∈ os) : goC seen os = false := by
  induction os generalizing seen with
  | nil => cases h
  | cons o r ih =>
    cases o with
    | none => rfl
    | some c =>
      have h' : none ∈ r := by simpa using h
      unfold goC
      split
      · rfl
      · exact ih h'
theorem goC_seen {seen : List Int} {os : List (Option (Int × Int))} (h : goC seen os = true) : (∀ o ∈ os, ∃ c, o = some c ∧ c.1 ∉ seen) ∧ (os.map fun o => (o.getD (0, 0)).1).Nodup := by
  induction os generalizing seen with
  | nil => exact ⟨fun o ho => (by cases ho), List.nodup_nil⟩
  | cons o r ih =>
    cases o with
    | none => cases h
    | some c =>
      unfold goC at h
      split at h
      · cases h
      · rename_i hn
        obtain ⟨h1, h2⟩ := ih h
        refine ⟨fun o ho => ?_, ?_⟩
        · rcases List.mem_cons.mp ho with rfl | ho
          · exact ⟨c, rfl, hn⟩
          · obtain ⟨d, e, nd⟩ := h1 o ho
            exact ⟨d, e, fun z => nd (List.mem_append_left _ z)⟩
        · rw [List.map_cons, List.nodup_cons]
          refine ⟨fun hm => ?_, h2⟩
          obtain ⟨o, ho, e⟩ := List.mem_map.mp hm
          obtain ⟨d, rfl, nd⟩ := h1 o ho
          exact nd (List.mem_append_right _ (by simpa using e))
theorem goC_dup {seen : List Int} {os : List (Option (Int × Int))} (h : ¬ (os.map fun o => (o.getD (0, 0)).1).Nodup) : goC seen os = false := by
  cases e : goC seen os with
  | false => rfl
  | true => exact absurd (goC_seen e).2 h
theorem goC_good {seen : List Int} {cs : List (Int × Int)} (h1 : ∀ c ∈ cs, c.1 ∉ seen) (h2 : (cs.map (·.1)).Nodup) : goC seen (cs.map some) = true := by
  induction cs generalizing seen with
  | nil => rfl
  | cons c r ih =>
    rw [List.map_cons, List.nodup_cons] at h2
    show (if c.1 ∈ seen then false else goC (seen ++ [c.1]) (r.map some)) = true
    rw [if_neg (h1 c List.mem_cons_self)]
    refine ih (fun d hd z => ?_) h2.2
    rcases List.mem_append.mp z with z | z
    · exact h1 d (List.mem_cons_of_mem _ hd) z
    · exact h2.1 (List.mem_map.mpr ⟨d, hd, List.mem_singleton.mp z⟩)
theorem goC_mid {cs : List (Int × Int)} {m : Nat} {d c : Int × Int} (hc : c ∈ cs) (e : d.1 = c.1) : goC [] ((cs.take m).map some ++ [some d] ++ (cs.drop m).map some) = false := by
  refine goC_dup fun h => ?_
  have hp : (cs.take m ++ [d] ++ cs.drop m).Perm (d :: cs) := by
    rw [List.append_assoc]
    show (cs.take m ++ d :: cs.drop m).Perm _
    refine List.perm_middle.trans ?_
    rw [List.take_append_drop]
  have e1 : (((cs.take m).map some ++ [some d] ++ (cs.drop m).map some).map fun o => (o.getD (0, 0)).1) = (cs.take m ++ [d] ++ cs.drop m).map (·.1) := by
    simp [List.map_append, List.map_map, Function.comp_def]
  rw [e1] at h
  have h2 := (hp.map (·.1)).nodup_iff.mp h
  rw [List.map_cons, List.nodup_cons] at h2
  exact h2.1 (List.mem_map.mpr ⟨c, hc, e.symm⟩)
theorem goC_two {cs : List (Int × Int)} {c : Int × Int} (hc : c ∈ cs) : goC [] (cs.map some ++ cs.map some) = false := by
  refine goC_dup fun h => ?_
  rw [List.map_append, List.nodup_append] at h
  have hm : c.1 ∈ (cs.map some).map fun o => (o.getD (0, 0)).1 := List.mem_map.mpr ⟨some c, List.mem_map.mpr ⟨c, hc, rfl⟩, rfl⟩
  exact h.2.2 _ hm _ hm rfl
/-- the numbers that these are by the changes -/
def applyC (ms : List Int) (cs : List (Int × Int)) : List Int := cs.foldl (fun z c => z.set c.1.toNat c.2) ms
theorem applyC_len {ms : List Int} {cs : List (Int × Int)} : (applyC ms cs).length = ms.length := by
  induction cs generalizing ms with
  | nil => rfl
  | cons c r ih =>
    show (applyC (ms.set c.1.toNat c.2) r).length = _
    rw [ih, List.length_set]
theorem applyC_pos {ms : List Int} {cs : List (Int × Int)} (hm : ∀ n ∈ ms, 0 ≤ n) (hc : ∀ c ∈ cs, 0 ≤ c.2) : ∀ n ∈ applyC ms cs, 0 ≤ n := by
  induction cs generalizing ms with
  | nil => exact hm
  | cons c r ih =>
    refine ih (ms := ms.set c.1.toNat c.2) (fun n hn => ?_) fun d hd => hc d (List.mem_cons_of_mem _ hd)
    rcases List.mem_or_eq_of_mem_set hn with h | h
    · exact hm n h
    · rw [h]
      exact hc c List.mem_cons_self
theorem applyC_snoc {ms : List Int} {cs : List (Int × Int)} {i : Nat} {c : Int × Int} (h : cs[i]? = some c) : applyC ms (cs.take (i + 1)) = (applyC ms (cs.take i)).set c.1.toNat c.2 := by
  unfold applyC
  rw [List.take_succ, List.foldl_append, h]
  rfl
/-- the changes from the other ones -/
def diffC (ms ns : List Int) : Nat → List (Int × Int)
  | 0 => []
  | k + 1 => if ms.getD k 0 = ns.getD k 0 then diffC ms ns k else diffC ms ns k ++ [((k : Int), ms.getD k 0)]
theorem diffC_mem {ms ns : List Int} {k : Nat} {c : Int × Int} (h : c ∈ diffC ms ns k) : ∃ j, j < k ∧ c = ((j : Int), ms.getD j 0) := by
  induction k with
  | zero => cases h
  | succ k ih =>
    unfold diffC at h
    split at h
    · obtain ⟨j, h1, h2⟩ := ih h
      exact ⟨j, by omega, h2⟩
    · rcases List.mem_append.mp h with h | h
      · obtain ⟨j, h1, h2⟩ := ih h
        exact ⟨j, by omega, h2⟩
      · exact ⟨k, by omega, List.mem_singleton.mp h⟩
theorem diffC_nodup {ms ns : List Int} {k : Nat} : ((diffC ms ns k).map (·.1)).Nodup := by
  induction k with
  | zero => exact List.nodup_nil
  | succ k ih =>
    unfold diffC
    split
    · exact ih
    · rw [List.map_append, List.nodup_append]
      refine ⟨ih, by simp, fun a ha b hb e => ?_⟩
      obtain ⟨c, hc, rfl⟩ := List.mem_map.mp ha
      obtain ⟨j, h1, rfl⟩ := diffC_mem hc
      simp at hb
      subst hb
      simp at e
      omega
theorem diffC_len {ms ns : List Int} {k : Nat} : (diffC ms ns k).length ≤ k := by
  induction k with
  | zero => exact Nat.le_refl _
  | succ k ih =>
    unfold diffC
    split
    · omega
    · rw [List.length_append, List.length_singleton]
      omega
theorem diffC_apply {ms ns : List Int} (hl : ns.length = ms.length) {k : Nat} (hk : k ≤ ms.length) : applyC ns (diffC ms ns k) = ms.take k ++ ns.drop k := by
  induction k with
  | zero => rfl
  | succ k ih =>
    have hk1 : k < ms.length := by omega
    have hk2 : k < ns.length := by omega
    have em : ms.getD k 0 = ms[k] := by simp [List.getD_eq_getElem?_getD, hk1]
    have en : ns.getD k 0 = ns[k] := by simp [List.getD_eq_getElem?_getD, hk2]
    have e1 : ms.take (k + 1) = ms.take k ++ [ms[k]] := by rw [List.take_succ, List.getElem?_eq_getElem hk1]; rfl
    have e2 : ns.drop k = ns[k] :: ns.drop (k + 1) := List.drop_eq_getElem_cons hk2
    unfold diffC
    split
    · rename_i he
      rw [ih (by omega), e1, e2, List.append_assoc, show ns[k] = ms[k] by rw [← em, ← en, he]]
      rfl
    · show (diffC ms ns k ++ [((k : Int), ms.getD k 0)]).foldl (fun z c => z.set c.1.toNat c.2) ns = _
      rw [List.foldl_append]
      show (applyC ns (diffC ms ns k)).set (k : Int).toNat (ms.getD k 0) = _
      rw [ih (by omega), e1, e2, em, Int.toNat_natCast, List.set_append]
      have : (ms.take k).length = k := by rw [List.length_take]; omega
      rw [if_neg (by omega), this, Nat.sub_self, List.set_cons_zero, List.append_assoc]
      rfl
theorem diffC_leads {ms ns : List Int} (hl : ns.length = ms.length) : applyC ns (diffC ms ns ms.length) = ms := by
  rw [diffC_apply hl (Nat.le_refl _), List.take_length, List.drop_of_length_le (by omega), List.append_nil]
theorem diffC_ok {ms ns : List Int} (hl : ns.length = ms.length) (hm : ∀ n ∈ ms, 0 ≤ n) : ∀ c ∈ diffC ms ns ms.length, 0 ≤ c.1 ∧ c.1 ≤ (ns.length : Nat) - 1 ∧ 0 ≤ c.2 := fun c hc => by
  obtain ⟨j, h1, rfl⟩ := diffC_mem hc
  refine ⟨by show (0:Int) ≤ j; omega, by show (j : Int) ≤ _; omega, ?_⟩
  show 0 ≤ ms.getD j 0
  rw [List.getD_eq_getElem?_getD, List.getElem?_eq_getElem h1]
  exact hm _ (List.getElem_mem _)
/-- all stands as it stood, but the list at x -/
def FrX (x : V) (H H' : Hp) : Prop := ∀ b o, H b = some o → (∀ xs, o = .lst xs → x ≠ .ref b) → H' b = some o
theorem FrX.of {x : V} {H H' : Hp} (s : Same H H') : FrX x H H' := fun b o e _ => s b o e
/-- a list, or what is none -/
def LoN (K : PySem.W.Frag) (H : Hp) (x : V) : Prop := (∃ a xs, x = .ref a ∧ H a = some (.lst xs) ∧ xs.length ≤ 5000) ∨ ∃ t, TyX K H x t ∧ PySem.W.kitOne K t (.type "list") = some false ∧ NoL H x
theorem LoN.same {K : PySem.W.Frag} {H H' : Hp} {x : V} (h : LoN K H x) (s : Same H H') : LoN K H' x := by
  rcases h with ⟨a, xs, e, h1, h2⟩ | ⟨t, h1, h2, h3⟩
  · exact .inl ⟨a, xs, e, s _ _ h1, h2⟩
  · exact .inr ⟨t, h1.mono s, h2, h3.same s⟩
theorem LoN.no {K : PySem.W.Frag} {H : Hp} {x : V} {t : Value} (h1 : TyX K H x t) (h2 : PySem.W.kitOne K t (.type "list") = some false) (h3 : NoL H x) : LoN K H x := .inr ⟨t, h1, h2, h3⟩
/-- all stands but the list at g, which may have grown by one -/
theorem FrX.step {x : V} {g : Addr} {H0 H8 H9 H10 : Hp} {zs : List V} (f8 : Fr1 g H0 H8) (z1 : H8 g = some (.lst zs)) (s : Same H8 H9) (fx : FrX x H9 H10) (gx : ∀ q xs, x = .ref q → H9 q = some (.lst xs) → ∃ ys, H10 q = some (.lst ys) ∧ ys.length = xs.length + 1)
    (hx : ∀ b xs, x = .ref b → H0 b = some (.lst xs) → b = g) : Fr1 g H0 H10 ∧ ∃ ys, H10 g = some (.lst ys) ∧ ys.length ≤ zs.length + 1 := by
  refine ⟨fun b o n e => ?_, ?_⟩
  · refine fx b o (s _ _ (f8 b o n e)) fun xs eo ex => ?_
    rw [eo] at e
    exact n (hx b xs ex e)
  · by_cases h : x = .ref g
    · obtain ⟨ys, h1, h2⟩ := gx g zs h (s _ _ z1)
      exact ⟨ys, h1, by omega⟩
    · exact ⟨zs, fx g _ (s _ _ z1) fun xs _ ex => h ex, by omega⟩
theorem FrX.all {x : V} {H H' : Hp} (h : FrX x H H') (hx : ∀ a, x ≠ .ref a) : Same H H' := fun b o e => h b o e fun _ _ => hx b
theorem FrX.noL {x : V} {H H' : Hp} (h : FrX x H H') (hx : NoL H x) : Same H H' := fun b o e => h b o e fun xs eo ex => hx.no ex (eo ▸ e)
theorem FrX.fr1 {c : Addr} {H H' : Hp} (h : FrX (.ref c) H H') : Fr1 c H H' := fun b o n e => h b o e fun _ _ z => n (V.ref.inj z).symm
theorem ItC.good {K : PySem.W.Frag} {H : Hp} {m : Int} {xs : List V} {cs : List (Int × Int)} (hs : All2 (PairAt H) xs cs) (hc : ∀ c ∈ cs, 0 ≤ c.1 ∧ c.1 ≤ m - 1 ∧ 0 ≤ c.2) : All2 (ItC K H m) xs (cs.map some) := by
  have h0 : All2 (fun x c => PairAt H x c ∧ c ∈ cs) xs cs := by
    clear hc
    induction hs with
    | nil => exact .nil
    | cons a _ ih => exact .cons ⟨a, List.mem_cons_self⟩ (ih.mono fun x c z => ⟨z.1, List.mem_cons_of_mem _ z.2⟩)
  exact h0.maps fun x c z => .inl ⟨c, z.1, (hc c z.2).1, (hc c z.2).2.1, (hc c z.2).2.2, rfl⟩
def SelfV (x : V) : Prop := (∃ a, x = .ref a) ∨ (∃ s, x = .str s) ∨ (∃ i, x = .int i) ∨ (∃ b, x = .bl b) ∨ x = .non
/-- Counts of these numbers -/
def CtAt (C : Addr) (H : Hp) (p : Addr) (c : List Int) : Prop := ∃ dx t, H p = some (.ins C dx [("_numbers", .ref t)]) ∧ H t = some (.tup (c.map V.int))
theorem CtAt.same {C : Addr} {H H' : Hp} {p : Addr} {c : List Int} (h : CtAt C H p c) (s : Same H H') : CtAt C H' p c := by
  obtain ⟨dx, t, h1, h2⟩ := h
  exact ⟨dx, t, s _ _ h1, s _ _ h2⟩
/-- what is refused: the deed, what is handed in, which class, the thing -/
def Refs (K : PySem.W.Frag) (C : Addr) (H : Hp) (ms : List Int) (d : Int) (vs : List V) (a : Int) (z x : V) : Prop :=
  (d = 0 ∧ a = 1 ∧ z = x ∧ (∃ y, vs = [x, y]) ∧ NotM K H (ms.length : Nat) x ∧ LoN K H x) ∨
  (d = 0 ∧ a = 2 ∧ (∃ k : Int, x = .int k ∧ 0 ≤ k ∧ k < ms.length) ∧ vs = [x, z] ∧ NotW0 K H z) ∨
  (d = 1 ∧ a = 0 ∧ z = x ∧ vs = [x] ∧ (∃ t, TyX K H x t ∧ PySem.W.kitOne K t (.ref C) = some false) ∧ LoN K H x) ∨
  (d = 1 ∧ a = 3 ∧ z = x ∧ vs = [x] ∧ ∃ q ns, x = .ref q ∧ CtAt C H q ns ∧ ns.length ≠ ms.length ∧ ns.length ≤ 5) ∨
  (d = 2 ∧ a = 0 ∧ z = x ∧ vs = [x] ∧ ∃ q xs os, x = .ref q ∧ LT H q xs ∧ All2 (ItC K H (ms.length : Nat)) xs os ∧ goC [] os = false ∧ xs.length ≤ 2000) ∨
  (d = 2 ∧ a = 0 ∧ z = x ∧ vs = [x] ∧ ∃ t, TyX K H x t ∧ PySem.W.kitAny K t [.type "list", .type "tuple"] = some false ∧ PySem.W.kitOne K t (.type "list") = some false ∧ NoL H x)
theorem Refs.same {K : PySem.W.Frag} {C : Addr} {H H' : Hp} {ms : List Int} {d : Int} {vs : List V} {a : Int} {z x : V} (h : Refs K C H ms d vs a z x) (s : Same H H') : Refs K C H' ms d vs a z x := by
  rcases h with ⟨h1, h2, h3, h4, h5, h6⟩ | ⟨h1, h2, h3, h4, h5⟩ | ⟨h1, h2, h3, h4, ⟨t, h5, h6⟩, h7⟩ | ⟨h1, h2, h3, h4, q, ns, h5, h6, h7⟩ | ⟨h1, h2, h3, h4, q, xs, os, h5, h6, h7, h8⟩ | ⟨h1, h2, h3, h4, t, h5, h6, h7, h8⟩
  · exact .inl ⟨h1, h2, h3, h4, h5.same s, h6.same s⟩
  · exact .inr (.inl ⟨h1, h2, h3, h4, h5.same s⟩)
  · exact .inr (.inr (.inl ⟨h1, h2, h3, h4, ⟨t, h5.mono s, h6⟩, h7.same s⟩))
  · exact .inr (.inr (.inr (.inl ⟨h1, h2, h3, h4, q, ns, h5, h6.same s, h7⟩)))
  · exact .inr (.inr (.inr (.inr (.inl ⟨h1, h2, h3, h4, q, xs, os, h5, h6.same s, h7.mono fun x c z => z.same s, h8⟩))))
  · exact .inr (.inr (.inr (.inr (.inr ⟨h1, h2, h3, h4, t, h5.mono s, h6, h7, h8.same s⟩))))
def sp_is_list (K : PySem.W.Frag) : Sp := fun vs H Q E => (∃ (x : V) (t : Value) (b : Bool), vs = [x] ∧ (TyX K H x t) ∧ (PySem.W.kitAny K t [.type "list", .type "tuple"] = some b) ∧ ∀ H', Same H H' → Q (.bl b) H')
theorem r_is_list {K : PySem.W.Frag} {H : Hp} {Q : VK} {E : XK} {vv : List V} {x : V} {t : Value} {b : Bool} (ee : vv = [x]) (ht : TyX K H x t) (hk : PySem.W.kitAny K t [.type "list", .type "tuple"] = some b) (k : ∀ H', Same H H' → Q (.bl b) H') : sp_is_list K vv H Q E := by
  subst ee
  exact ⟨x, t, b, rfl, ht, hk, k⟩
def sp_is_member (K : PySem.W.Frag) : Sp := fun vs H Q E => (∃ (n m : Int), vs = [.int n, .int m] ∧ Q (.bl (decide (0 ≤ n) && decide (n ≤ m - 1))) H) ∨
  (∃ (x : V) (m : Int), vs = [x, .int m] ∧ (NotM K H m x) ∧ Q (.bl false) H)
theorem r_is_member_1 {K : PySem.W.Frag} {H : Hp} {Q : VK} {E : XK} {vv : List V} {n m : Int} (ee : vv = [.int n, .int m])  (k : Q (.bl (decide (0 ≤ n) && decide (n ≤ m - 1))) H) : sp_is_member K vv H Q E := by
  subst ee
  exact .inl ⟨n, m, rfl, k⟩
theorem r_is_member_2 {K : PySem.W.Frag} {H : Hp} {Q : VK} {E : XK} {vv : List V} {x : V} {m : Int} (ee : vv = [x, .int m]) (hx : NotM K H m x) (k : Q (.bl false) H) : sp_is_member K vv H Q E := by
  subst ee
  exact .inr (⟨x, m, rfl, hx, k⟩)
def sp_check_member (K : PySem.W.Frag) (CM : Addr) : Sp := fun vs H Q E => (∃ (n m : Int), vs = [.int n, .int m] ∧ (0 ≤ n) ∧ (n ≤ m - 1) ∧ Q .non H) ∨
  (∃ (x : V) (m : Int), vs = [x, .int m] ∧ (NotM K H m x) ∧ ∀ d, H d = none → E (.ref CM) (some d) (upd H d (.xd [("found", x)])))
theorem r_check_member_1 {K : PySem.W.Frag} {CM : Addr} {H : Hp} {Q : VK} {E : XK} {vv : List V} {n m : Int} (ee : vv = [.int n, .int m]) (h0 : 0 ≤ n) (h1 : n ≤ m - 1) (k : Q .non H) : sp_check_member K CM vv H Q E := by
  subst ee
  exact .inl ⟨n, m, rfl, h0, h1, k⟩
theorem r_check_member_2 {K : PySem.W.Frag} {CM : Addr} {H : Hp} {Q : VK} {E : XK} {vv : List V} {x : V} {m : Int} (ee : vv = [x, .int m]) (hx : NotM K H m x) (k : ∀ d, H d = none → E (.ref CM) (some d) (upd H d (.xd [("found", x)]))) : sp_check_member K CM vv H Q E := by
  subst ee
  exact .inr (⟨x, m, rfl, hx, k⟩)
def sp_are_changes (K : PySem.W.Frag) : Sp := fun vs H Q E => (∃ (a : Addr) (xs : List V) (os : List (Option (Int × Int))) (m : Int), vs = [.ref a, .int m, .int 0, .non] ∧ (LT H a xs) ∧ (All2 (ItC K H m) xs os) ∧ (xs.length ≤ 2000) ∧ ∀ H', Same H H' → Q (.bl (goC [] os)) H') ∨
  (∃ (x : V) (t : Value) (m : Int), vs = [x, .int m, .int 0, .non] ∧ (TyX K H x t) ∧ (PySem.W.kitAny K t [.type "list", .type "tuple"] = some false) ∧ ∀ H', Same H H' → Q (.bl false) H')
theorem r_are_changes_1 {K : PySem.W.Frag} {H : Hp} {Q : VK} {E : XK} {vv : List V} {a : Addr} {xs : List V} {os : List (Option (Int × Int))} {m : Int} (ee : vv = [.ref a, .int m, .int 0, .non]) (ha : LT H a xs) (hs : All2 (ItC K H m) xs os) (hl : xs.length ≤ 2000) (k : ∀ H', Same H H' → Q (.bl (goC [] os)) H') : sp_are_changes K vv H Q E := by
  subst ee
  exact .inl ⟨a, xs, os, m, rfl, ha, hs, hl, k⟩
theorem r_are_changes_2 {K : PySem.W.Frag} {H : Hp} {Q : VK} {E : XK} {vv : List V} {x : V} {t : Value} {m : Int} (ee : vv = [x, .int m, .int 0, .non]) (hx : TyX K H x t) (hk : PySem.W.kitAny K t [.type "list", .type "tuple"] = some false) (k : ∀ H', Same H H' → Q (.bl false) H') : sp_are_changes K vv H Q E := by
  subst ee
  exact .inr (⟨x, t, m, rfl, hx, hk, k⟩)
def sp_Counts_init (K : PySem.W.Frag) (C : Addr) : Sp := fun vs H Q E => (∃ (p dx a : Addr) (xs : List V), vs = [.ref p, .ref a] ∧ (H p = some (.ins C dx [])) ∧ (H a = some (.lst xs)) ∧ (2 ≤ xs.length) ∧ (xs.length ≤ 5) ∧ (NN xs) ∧ ∀ (t : Addr) (H' : Hp), Fr1 p H H' → H' p = some (.ins C dx [("_numbers", .ref t)]) → H' t = some (.tup xs) → Q .non H')
theorem r_Counts_init {K : PySem.W.Frag} {C : Addr} {H : Hp} {Q : VK} {E : XK} {vv : List V} {p dx a : Addr} {xs : List V} (ee : vv = [.ref p, .ref a]) (hp : H p = some (.ins C dx [])) (ha : H a = some (.lst xs)) (hl : 2 ≤ xs.length) (hl2 : xs.length ≤ 5) (hn : NN xs) (k : ∀ (t : Addr) (H' : Hp), Fr1 p H H' → H' p = some (.ins C dx [("_numbers", .ref t)]) → H' t = some (.tup xs) → Q .non H') : sp_Counts_init K C vv H Q E := by
  subst ee
  exact ⟨p, dx, a, xs, rfl, hp, ha, hl, hl2, hn, k⟩
def sp_Counts_len (K : PySem.W.Frag) (C : Addr) : Sp := fun vs H Q E => (∃ (p dx t : Addr) (xs : List V), vs = [.ref p] ∧ (H p = some (.ins C dx [("_numbers", .ref t)])) ∧ (H t = some (.tup xs)) ∧ Q (.int (xs.length : Nat)) H)
theorem r_Counts_len {K : PySem.W.Frag} {C : Addr} {H : Hp} {Q : VK} {E : XK} {vv : List V} {p dx t : Addr} {xs : List V} (ee : vv = [.ref p]) (hp : H p = some (.ins C dx [("_numbers", .ref t)])) (ht : H t = some (.tup xs)) (k : Q (.int (xs.length : Nat)) H) : sp_Counts_len K C vv H Q E := by
  subst ee
  exact ⟨p, dx, t, xs, rfl, hp, ht, k⟩
def sp_Counts_told (K : PySem.W.Frag) (C : Addr) : Sp := fun vs H Q E => (∃ (p dx t : Addr), vs = [.ref p] ∧ (H p = some (.ins C dx [("_numbers", .ref t)])) ∧ Q (.ref t) H)
theorem r_Counts_told {K : PySem.W.Frag} {C : Addr} {H : Hp} {Q : VK} {E : XK} {vv : List V} {p dx t : Addr} (ee : vv = [.ref p]) (hp : H p = some (.ins C dx [("_numbers", .ref t)])) (k : Q (.ref t) H) : sp_Counts_told K C vv H Q E := by
  subst ee
  exact ⟨p, dx, t, rfl, hp, k⟩
def sp_Counts_eq (K : PySem.W.Frag) (C : Addr) : Sp := fun vs H Q E => (∃ (p dx t q dy u : Addr) (ms ns : List Int), vs = [.ref p, .ref q] ∧ (H p = some (.ins C dx [("_numbers", .ref t)])) ∧ (H t = some (.tup (ms.map V.int))) ∧ (H q = some (.ins C dy [("_numbers", .ref u)])) ∧ (H u = some (.tup (ns.map V.int))) ∧ Q (.bl (decide (ms = ns))) H)
theorem r_Counts_eq {K : PySem.W.Frag} {C : Addr} {H : Hp} {Q : VK} {E : XK} {vv : List V} {p dx t q dy u : Addr} {ms ns : List Int} (ee : vv = [.ref p, .ref q]) (hp : H p = some (.ins C dx [("_numbers", .ref t)])) (ht : H t = some (.tup (ms.map V.int))) (hq : H q = some (.ins C dy [("_numbers", .ref u)])) (hu : H u = some (.tup (ns.map V.int))) (k : Q (.bl (decide (ms = ns))) H) : sp_Counts_eq K C vv H Q E := by
  subst ee
  exact ⟨p, dx, t, q, dy, u, ms, ns, rfl, hp, ht, hq, hu, k⟩
def sp_Counts_of (K : PySem.W.Frag) (C : Addr) : Sp := fun vs H Q E => (∃ (p dx t : Addr) (ms : List Int) (j : Int), vs = [.ref p, .int j] ∧ (H p = some (.ins C dx [("_numbers", .ref t)])) ∧ (H t = some (.tup (ms.map V.int))) ∧ (0 ≤ j) ∧ (j < ms.length) ∧ Q (.int (ms.getD j.toNat 0)) H)
theorem r_Counts_of {K : PySem.W.Frag} {C : Addr} {H : Hp} {Q : VK} {E : XK} {vv : List V} {p dx t : Addr} {ms : List Int} {j : Int} (ee : vv = [.ref p, .int j]) (hp : H p = some (.ins C dx [("_numbers", .ref t)])) (ht : H t = some (.tup (ms.map V.int))) (h0 : 0 ≤ j) (h1 : j < ms.length) (k : Q (.int (ms.getD j.toNat 0)) H) : sp_Counts_of K C vv H Q E := by
  subst ee
  exact ⟨p, dx, t, ms, j, rfl, hp, ht, h0, h1, k⟩
def sp_Counts_raised (K : PySem.W.Frag) (C CN CM : Addr) : Sp := fun vs H Q E => (∃ (p dx t : Addr) (ms : List Int) (j n : Int), vs = [.ref p, .int j, .int n] ∧ (H p = some (.ins C dx [("_numbers", .ref t)])) ∧ (H t = some (.tup (ms.map V.int))) ∧ (0 ≤ j) ∧ (j < ms.length) ∧ (0 ≤ n) ∧ (2 ≤ ms.length) ∧ (ms.length ≤ 5) ∧ (∀ n ∈ ms, 0 ≤ n) ∧ ∀ (r dz v : Addr) (H' : Hp), Same H H' → H' r = some (.ins C dz [("_numbers", .ref v)]) → H' v = some (.tup ((ms.set j.toNat (ms.getD j.toNat 0 + n)).map V.int)) → Q (.ref r) H') ∨
  (∃ (p dx t : Addr) (ms : List Int) (x y : V), vs = [.ref p, x, y] ∧ (H p = some (.ins C dx [("_numbers", .ref t)])) ∧ (H t = some (.tup (ms.map V.int))) ∧ (NotM K H (ms.length : Nat) x) ∧ ∀ d, H d = none → E (.ref CM) (some d) (upd H d (.xd [("found", x)]))) ∨
  (∃ (p dx t : Addr) (ms : List Int) (j : Int) (y : V), vs = [.ref p, .int j, y] ∧ (H p = some (.ins C dx [("_numbers", .ref t)])) ∧ (H t = some (.tup (ms.map V.int))) ∧ (0 ≤ j) ∧ (j < ms.length) ∧ (NotW0 K H y) ∧ ∀ d, H d = none → E (.ref CN) (some d) (upd H d (.xd [("found", y)])))
theorem r_Counts_raised_1 {K : PySem.W.Frag} {C CN CM : Addr} {H : Hp} {Q : VK} {E : XK} {vv : List V} {p dx t : Addr} {ms : List Int} {j n : Int} (ee : vv = [.ref p, .int j, .int n]) (hp : H p = some (.ins C dx [("_numbers", .ref t)])) (ht : H t = some (.tup (ms.map V.int))) (h0 : 0 ≤ j) (h1 : j < ms.length) (hn : 0 ≤ n) (h2 : 2 ≤ ms.length) (h5 : ms.length ≤ 5) (hm : ∀ n ∈ ms, 0 ≤ n) (k : ∀ (r dz v : Addr) (H' : Hp), Same H H' → H' r = some (.ins C dz [("_numbers", .ref v)]) → H' v = some (.tup ((ms.set j.toNat (ms.getD j.toNat 0 + n)).map V.int)) → Q (.ref r) H') : sp_Counts_raised K C CN CM vv H Q E := by
  subst ee
  exact .inl ⟨p, dx, t, ms, j, n, rfl, hp, ht, h0, h1, hn, h2, h5, hm, k⟩
theorem r_Counts_raised_2 {K : PySem.W.Frag} {C CN CM : Addr} {H : Hp} {Q : VK} {E : XK} {vv : List V} {p dx t : Addr} {ms : List Int} {x y : V} (ee : vv = [.ref p, x, y]) (hp : H p = some (.ins C dx [("_numbers", .ref t)])) (ht : H t = some (.tup (ms.map V.int))) (hx : NotM K H (ms.length : Nat) x) (k : ∀ d, H d = none → E (.ref CM) (some d) (upd H d (.xd [("found", x)]))) : sp_Counts_raised K C CN CM vv H Q E := by
  subst ee
  exact .inr (.inl ⟨p, dx, t, ms, x, y, rfl, hp, ht, hx, k⟩)
theorem r_Counts_raised_3 {K : PySem.W.Frag} {C CN CM : Addr} {H : Hp} {Q : VK} {E : XK} {vv : List V} {p dx t : Addr} {ms : List Int} {j : Int} {y : V} (ee : vv = [.ref p, .int j, y]) (hp : H p = some (.ins C dx [("_numbers", .ref t)])) (ht : H t = some (.tup (ms.map V.int))) (h0 : 0 ≤ j) (h1 : j < ms.length) (hy : NotW0 K H y) (k : ∀ d, H d = none → E (.ref CN) (some d) (upd H d (.xd [("found", y)]))) : sp_Counts_raised K C CN CM vv H Q E := by
  subst ee
  exact .inr (.inr (⟨p, dx, t, ms, j, y, rfl, hp, ht, h0, h1, hy, k⟩))
def sp_Counts_changes_from (K : PySem.W.Frag) (C CN CU : Addr) : Sp := fun vs H Q E => (∃ (p dx t q dy u : Addr) (ms ns : List Int), vs = [.ref p, .ref q] ∧ (H p = some (.ins C dx [("_numbers", .ref t)])) ∧ (H t = some (.tup (ms.map V.int))) ∧ (H q = some (.ins C dy [("_numbers", .ref u)])) ∧ (H u = some (.tup (ns.map V.int))) ∧ (ns.length = ms.length) ∧ (ms.length ≤ 5) ∧ ∀ (l : Addr) (xs : List V) (H' : Hp), Same H H' → H l = none → H' l = some (.lst xs) → All2 (PairD l H') xs (diffC ms ns ms.length) → Q (.ref l) H') ∨
  (∃ (p dx t q dy u : Addr) (ms ns : List Int), vs = [.ref p, .ref q] ∧ (H p = some (.ins C dx [("_numbers", .ref t)])) ∧ (H t = some (.tup (ms.map V.int))) ∧ (H q = some (.ins C dy [("_numbers", .ref u)])) ∧ (H u = some (.tup (ns.map V.int))) ∧ (ns.length ≠ ms.length) ∧ (ms.length ≤ 5) ∧ (ns.length ≤ 5) ∧ ∀ d, H d = none → E (.ref CU) (some d) (upd H d (.xd [("found", .ref q)]))) ∨
  (∃ (p dx t : Addr) (x : V) (ty : Value), vs = [.ref p, x] ∧ (H p = some (.ins C dx [("_numbers", .ref t)])) ∧ (TyX K H x ty) ∧ (PySem.W.kitOne K ty (.ref C) = some false) ∧ ∀ d, H d = none → E (.ref CN) (some d) (upd H d (.xd [("found", x)])))
theorem r_Counts_changes_from_1 {K : PySem.W.Frag} {C CN CU : Addr} {H : Hp} {Q : VK} {E : XK} {vv : List V} {p dx t q dy u : Addr} {ms ns : List Int} (ee : vv = [.ref p, .ref q]) (hp : H p = some (.ins C dx [("_numbers", .ref t)])) (ht : H t = some (.tup (ms.map V.int))) (hq : H q = some (.ins C dy [("_numbers", .ref u)])) (hu : H u = some (.tup (ns.map V.int))) (hl : ns.length = ms.length) (hs : ms.length ≤ 5) (k : ∀ (l : Addr) (xs : List V) (H' : Hp), Same H H' → H l = none → H' l = some (.lst xs) → All2 (PairD l H') xs (diffC ms ns ms.length) → Q (.ref l) H') : sp_Counts_changes_from K C CN CU vv H Q E := by
  subst ee
  exact .inl ⟨p, dx, t, q, dy, u, ms, ns, rfl, hp, ht, hq, hu, hl, hs, k⟩
theorem r_Counts_changes_from_2 {K : PySem.W.Frag} {C CN CU : Addr} {H : Hp} {Q : VK} {E : XK} {vv : List V} {p dx t q dy u : Addr} {ms ns : List Int} (ee : vv = [.ref p, .ref q]) (hp : H p = some (.ins C dx [("_numbers", .ref t)])) (ht : H t = some (.tup (ms.map V.int))) (hq : H q = some (.ins C dy [("_numbers", .ref u)])) (hu : H u = some (.tup (ns.map V.int))) (hl : ns.length ≠ ms.length) (hs : ms.length ≤ 5) (hs2 : ns.length ≤ 5) (k : ∀ d, H d = none → E (.ref CU) (some d) (upd H d (.xd [("found", .ref q)]))) : sp_Counts_changes_from K C CN CU vv H Q E := by
  subst ee
  exact .inr (.inl ⟨p, dx, t, q, dy, u, ms, ns, rfl, hp, ht, hq, hu, hl, hs, hs2, k⟩)
theorem r_Counts_changes_from_3 {K : PySem.W.Frag} {C CN CU : Addr} {H : Hp} {Q : VK} {E : XK} {vv : List V} {p dx t : Addr} {x : V} {ty : Value} (ee : vv = [.ref p, x]) (hp : H p = some (.ins C dx [("_numbers", .ref t)])) (hx : TyX K H x ty) (hk : PySem.W.kitOne K ty (.ref C) = some false) (k : ∀ d, H d = none → E (.ref CN) (some d) (upd H d (.xd [("found", x)]))) : sp_Counts_changes_from K C CN CU vv H Q E := by
  subst ee
  exact .inr (.inr (⟨p, dx, t, x, ty, rfl, hp, hx, hk, k⟩))
def sp_Counts_changed (K : PySem.W.Frag) (C CN : Addr) : Sp := fun vs H Q E => (∃ (p dx t a : Addr) (ms : List Int) (xs : List V) (cs : List (Int × Int)), vs = [.ref p, .ref a] ∧ (H p = some (.ins C dx [("_numbers", .ref t)])) ∧ (H t = some (.tup (ms.map V.int))) ∧ (LT H a xs) ∧ (All2 (PairAt H) xs cs) ∧ (∀ c ∈ cs, 0 ≤ c.1 ∧ c.1 ≤ (ms.length : Nat) - 1 ∧ 0 ≤ c.2) ∧ ((cs.map (·.1)).Nodup) ∧ (xs.length ≤ 2000) ∧ (2 ≤ ms.length) ∧ (ms.length ≤ 5) ∧ (∀ n ∈ ms, 0 ≤ n) ∧ ∀ (r dz v : Addr) (H' : Hp), Same H H' → H' r = some (.ins C dz [("_numbers", .ref v)]) → H' v = some (.tup ((applyC ms cs).map V.int)) → Q (.ref r) H') ∨
  (∃ (p dx t a : Addr) (ms : List Int) (xs : List V) (os : List (Option (Int × Int))), vs = [.ref p, .ref a] ∧ (H p = some (.ins C dx [("_numbers", .ref t)])) ∧ (H t = some (.tup (ms.map V.int))) ∧ (LT H a xs) ∧ (All2 (ItC K H (ms.length : Nat)) xs os) ∧ (goC [] os = false) ∧ (xs.length ≤ 2000) ∧ ∀ (d : Addr) (H' : Hp), Same H H' → H' d = some (.xd [("found", .ref a)]) → E (.ref CN) (some d) H') ∨
  (∃ (p dx t : Addr) (ms : List Int) (x : V) (ty : Value), vs = [.ref p, x] ∧ (H p = some (.ins C dx [("_numbers", .ref t)])) ∧ (H t = some (.tup (ms.map V.int))) ∧ (TyX K H x ty) ∧ (PySem.W.kitAny K ty [.type "list", .type "tuple"] = some false) ∧ ∀ (d : Addr) (H' : Hp), Same H H' → H' d = some (.xd [("found", x)]) → E (.ref CN) (some d) H')
theorem r_Counts_changed_1 {K : PySem.W.Frag} {C CN : Addr} {H : Hp} {Q : VK} {E : XK} {vv : List V} {p dx t a : Addr} {ms : List Int} {xs : List V} {cs : List (Int × Int)} (ee : vv = [.ref p, .ref a]) (hp : H p = some (.ins C dx [("_numbers", .ref t)])) (ht : H t = some (.tup (ms.map V.int))) (ha : LT H a xs) (hs : All2 (PairAt H) xs cs) (hc : ∀ c ∈ cs, 0 ≤ c.1 ∧ c.1 ≤ (ms.length : Nat) - 1 ∧ 0 ≤ c.2) (hd : (cs.map (·.1)).Nodup) (hl : xs.length ≤ 2000) (h2 : 2 ≤ ms.length) (h5 : ms.length ≤ 5) (hm : ∀ n ∈ ms, 0 ≤ n) (k : ∀ (r dz v : Addr) (H' : Hp), Same H H' → H' r = some (.ins C dz [("_numbers", .ref v)]) → H' v = some (.tup ((applyC ms cs).map V.int)) → Q (.ref r) H') : sp_Counts_changed K C CN vv H Q E := by
  subst ee
  exact .inl ⟨p, dx, t, a, ms, xs, cs, rfl, hp, ht, ha, hs, hc, hd, hl, h2, h5, hm, k⟩
theorem r_Counts_changed_2 {K : PySem.W.Frag} {C CN : Addr} {H : Hp} {Q : VK} {E : XK} {vv : List V} {p dx t a : Addr} {ms : List Int} {xs : List V} {os : List (Option (Int × Int))} (ee : vv = [.ref p, .ref a]) (hp : H p = some (.ins C dx [("_numbers", .ref t)])) (ht : H t = some (.tup (ms.map V.int))) (ha : LT H a xs) (hs : All2 (ItC K H (ms.length : Nat)) xs os) (hg : goC [] os = false) (hl : xs.length ≤ 2000) (k : ∀ (d : Addr) (H' : Hp), Same H H' → H' d = some (.xd [("found", .ref a)]) → E (.ref CN) (some d) H') : sp_Counts_changed K C CN vv H Q E := by
  subst ee
  exact .inr (.inl ⟨p, dx, t, a, ms, xs, os, rfl, hp, ht, ha, hs, hg, hl, k⟩)
theorem r_Counts_changed_3 {K : PySem.W.Frag} {C CN : Addr} {H : Hp} {Q : VK} {E : XK} {vv : List V} {p dx t : Addr} {ms : List Int} {x : V} {ty : Value} (ee : vv = [.ref p, x]) (hp : H p = some (.ins C dx [("_numbers", .ref t)])) (ht : H t = some (.tup (ms.map V.int))) (hx : TyX K H x ty) (hk : PySem.W.kitAny K ty [.type "list", .type "tuple"] = some false) (k : ∀ (d : Addr) (H' : Hp), Same H H' → H' d = some (.xd [("found", x)]) → E (.ref CN) (some d) H') : sp_Counts_changed K C CN vv H Q E := by
  subst ee
  exact .inr (.inr (⟨p, dx, t, ms, x, ty, rfl, hp, ht, hx, hk, k⟩))
def sp_Counts_check_like (K : PySem.W.Frag) (C CN CU : Addr) : Sp := fun vs H Q E => (∃ (p dx t q dy u : Addr) (ms ns : List Int), vs = [.ref p, .ref q] ∧ (H p = some (.ins C dx [("_numbers", .ref t)])) ∧ (H t = some (.tup (ms.map V.int))) ∧ (H q = some (.ins C dy [("_numbers", .ref u)])) ∧ (H u = some (.tup (ns.map V.int))) ∧ (ns.length = ms.length) ∧ (ms.length ≤ 5) ∧ Q .non H) ∨
  (∃ (p dx t q dy u : Addr) (ms ns : List Int), vs = [.ref p, .ref q] ∧ (H p = some (.ins C dx [("_numbers", .ref t)])) ∧ (H t = some (.tup (ms.map V.int))) ∧ (H q = some (.ins C dy [("_numbers", .ref u)])) ∧ (H u = some (.tup (ns.map V.int))) ∧ (ns.length ≠ ms.length) ∧ (ms.length ≤ 5) ∧ (ns.length ≤ 5) ∧ ∀ d, H d = none → E (.ref CU) (some d) (upd H d (.xd [("found", .ref q)]))) ∨
  (∃ (p dx t : Addr) (x : V) (ty : Value), vs = [.ref p, x] ∧ (H p = some (.ins C dx [("_numbers", .ref t)])) ∧ (TyX K H x ty) ∧ (PySem.W.kitOne K ty (.ref C) = some false) ∧ ∀ d, H d = none → E (.ref CN) (some d) (upd H d (.xd [("found", x)])))
theorem r_Counts_check_like_1 {K : PySem.W.Frag} {C CN CU : Addr} {H : Hp} {Q : VK} {E : XK} {vv : List V} {p dx t q dy u : Addr} {ms ns : List Int} (ee : vv = [.ref p, .ref q]) (hp : H p = some (.ins C dx [("_numbers", .ref t)])) (ht : H t = some (.tup (ms.map V.int))) (hq : H q = some (.ins C dy [("_numbers", .ref u)])) (hu : H u = some (.tup (ns.map V.int))) (hl : ns.length = ms.length) (hs : ms.length ≤ 5) (k : Q .non H) : sp_Counts_check_like K C CN CU vv H Q E := by
  subst ee
  exact .inl ⟨p, dx, t, q, dy, u, ms, ns, rfl, hp, ht, hq, hu, hl, hs, k⟩
theorem r_Counts_check_like_2 {K : PySem.W.Frag} {C CN CU : Addr} {H : Hp} {Q : VK} {E : XK} {vv : List V} {p dx t q dy u : Addr} {ms ns : List Int} (ee : vv = [.ref p, .ref q]) (hp : H p = some (.ins C dx [("_numbers", .ref t)])) (ht : H t = some (.tup (ms.map V.int))) (hq : H q = some (.ins C dy [("_numbers", .ref u)])) (hu : H u = some (.tup (ns.map V.int))) (hl : ns.length ≠ ms.length) (hs : ms.length ≤ 5) (hs2 : ns.length ≤ 5) (k : ∀ d, H d = none → E (.ref CU) (some d) (upd H d (.xd [("found", .ref q)]))) : sp_Counts_check_like K C CN CU vv H Q E := by
  subst ee
  exact .inr (.inl ⟨p, dx, t, q, dy, u, ms, ns, rfl, hp, ht, hq, hu, hl, hs, hs2, k⟩)
theorem r_Counts_check_like_3 {K : PySem.W.Frag} {C CN CU : Addr} {H : Hp} {Q : VK} {E : XK} {vv : List V} {p dx t : Addr} {x : V} {ty : Value} (ee : vv = [.ref p, x]) (hp : H p = some (.ins C dx [("_numbers", .ref t)])) (hx : TyX K H x ty) (hk : PySem.W.kitOne K ty (.ref C) = some false) (k : ∀ d, H d = none → E (.ref CN) (some d) (upd H d (.xd [("found", x)]))) : sp_Counts_check_like K C CN CU vv H Q E := by
  subst ee
  exact .inr (.inr (⟨p, dx, t, x, ty, rfl, hp, hx, hk, k⟩))
def sp_law_pool  : Sp := fun vs H Q E => (∃ (cell : Int), vs = [.int cell] ∧ ∀ (p : Addr) (n : Int), H p = none → 0 ≤ n → Q (.ref p) (upd H p (.lst [.int n])))
theorem r_law_pool  {H : Hp} {Q : VK} {E : XK} {vv : List V} {cell : Int} (ee : vv = [.int cell])  (k : ∀ (p : Addr) (n : Int), H p = none → 0 ≤ n → Q (.ref p) (upd H p (.lst [.int n]))) : sp_law_pool  vv H Q E := by
  subst ee
  exact ⟨cell, rfl, k⟩
def sp_law_take  : Sp := fun vs H Q E => (∃ (p : Addr) (n m : Int), vs = [.ref p, .int m] ∧ (H p = some (.lst [.int n])) ∧ (0 < m) ∧ (m.natAbs < 2 ^ 8000) ∧ Q (.int (n % m)) (upd H p (.lst [.int (n / m)])))
theorem r_law_take  {H : Hp} {Q : VK} {E : XK} {vv : List V} {p : Addr} {n m : Int} (ee : vv = [.ref p, .int m]) (hp : H p = some (.lst [.int n])) (hm : 0 < m) (hb : m.natAbs < 2 ^ 8000) (k : Q (.int (n % m)) (upd H p (.lst [.int (n / m)]))) : sp_law_take  vv H Q E := by
  subst ee
  exact ⟨p, n, m, rfl, hp, hm, hb, k⟩
def sp_law_numbers (K : PySem.W.Frag) : Sp := fun vs H Q E => (∃ (p : Addr) (n m : Int), vs = [.ref p, .int m] ∧ (H p = some (.lst [.int n])) ∧ (0 ≤ n) ∧ (2 ≤ m) ∧ (m ≤ 5) ∧ ∀ (l : Addr) (ns : List Int) (k : Int) (H' : Hp), Fr1 p H H' → H' p = some (.lst [.int k]) → 0 ≤ k → H l = none → l ≠ p → H' l = some (.lst (ns.map V.int)) → ns.length = m.toNat → (∀ n ∈ ns, 0 ≤ n) → Q (.ref l) H')
theorem r_law_numbers {K : PySem.W.Frag} {H : Hp} {Q : VK} {E : XK} {vv : List V} {p : Addr} {n m : Int} (ee : vv = [.ref p, .int m]) (hp : H p = some (.lst [.int n])) (hn : 0 ≤ n) (hm : 2 ≤ m) (h5 : m ≤ 5) (k : ∀ (l : Addr) (ns : List Int) (k : Int) (H' : Hp), Fr1 p H H' → H' p = some (.lst [.int k]) → 0 ≤ k → H l = none → l ≠ p → H' l = some (.lst (ns.map V.int)) → ns.length = m.toNat → (∀ n ∈ ns, 0 ≤ n) → Q (.ref l) H') : sp_law_numbers K vv H Q E := by
  subst ee
  exact ⟨p, n, m, rfl, hp, hn, hm, h5, k⟩
def sp_law_near (K : PySem.W.Frag) : Sp := fun vs H Q E => (∃ (a p : Addr) (ms : List Int) (n : Int), vs = [.ref a, .ref p] ∧ (H a = some (.lst (ms.map V.int))) ∧ (H p = some (.lst [.int n])) ∧ (0 ≤ n) ∧ (ms.length ≤ 5) ∧ (a ≠ p) ∧ ∀ (l : Addr) (ns : List Int) (k : Int) (H' : Hp), Fr1 p H H' → H' p = some (.lst [.int k]) → 0 ≤ k → H l = none → l ≠ p → H' l = some (.lst (ns.map V.int)) → ns.length = ms.length → (∀ n ∈ ns, 0 ≤ n) → Q (.ref l) H')
theorem r_law_near {K : PySem.W.Frag} {H : Hp} {Q : VK} {E : XK} {vv : List V} {a p : Addr} {ms : List Int} {n : Int} (ee : vv = [.ref a, .ref p]) (ha : H a = some (.lst (ms.map V.int))) (hp : H p = some (.lst [.int n])) (hn : 0 ≤ n) (h5 : ms.length ≤ 5) (hap : a ≠ p) (k : ∀ (l : Addr) (ns : List Int) (k : Int) (H' : Hp), Fr1 p H H' → H' p = some (.lst [.int k]) → 0 ≤ k → H l = none → l ≠ p → H' l = some (.lst (ns.map V.int)) → ns.length = ms.length → (∀ n ∈ ns, 0 ≤ n) → Q (.ref l) H') : sp_law_near K vv H Q E := by
  subst ee
  exact ⟨a, p, ms, n, rfl, ha, hp, hn, h5, hap, k⟩
def sp_law_first (K : PySem.W.Frag) (C : Addr) : Sp := fun vs H Q E => (∃ (d a : Int) (p l dx t : Addr) (ms : List Int) (us : List V) (z x : V), vs = [.int d, .ref p, .ref l] ∧ (H p = some (.ins C dx [("_numbers", .ref t)])) ∧ (H t = some (.tup (ms.map V.int))) ∧ (H l = some (.lst us)) ∧ (Refs K C H ms d us a z x) ∧ (ms.length ≤ 5) ∧ (x ≠ .ref l) ∧ ∀ (r w : Addr) (H' : Hp), FrX x H H' → (∀ q xs, x = .ref q → H q = some (.lst xs) → ∃ ys, H' q = some (.lst ys) ∧ ys.length = xs.length + 1) → H' r = some (.tup [.ref w, z]) → H' w = some (.lst ([decide (a = 0), decide (a = 1), decide (a = 2), decide (a = 3)].map V.bl)) → Q (.ref r) H')
theorem r_law_first {K : PySem.W.Frag} {C : Addr} {H : Hp} {Q : VK} {E : XK} {vv : List V} {d a : Int} {p l dx t : Addr} {ms : List Int} {us : List V} {z x : V} (ee : vv = [.int d, .ref p, .ref l]) (hp : H p = some (.ins C dx [("_numbers", .ref t)])) (ht : H t = some (.tup (ms.map V.int))) (hl : H l = some (.lst us)) (hr : Refs K C H ms d us a z x) (h5 : ms.length ≤ 5) (hx : x ≠ .ref l) (k : ∀ (r w : Addr) (H' : Hp), FrX x H H' → (∀ q xs, x = .ref q → H q = some (.lst xs) → ∃ ys, H' q = some (.lst ys) ∧ ys.length = xs.length + 1) → H' r = some (.tup [.ref w, z]) → H' w = some (.lst ([decide (a = 0), decide (a = 1), decide (a = 2), decide (a = 3)].map V.bl)) → Q (.ref r) H') : sp_law_first K C vv H Q E := by
  subst ee
  exact ⟨d, a, p, l, dx, t, ms, us, z, x, rfl, hp, ht, hl, hr, h5, hx, k⟩
def sp_law_refused (K : PySem.W.Frag) (C : Addr) : Sp := fun vs H Q E => (∃ (d a : Int) (p l dx t : Addr) (ms : List Int) (us : List V) (z x : V), vs = [.int d, .ref p, .ref l, .int a, z] ∧ (H p = some (.ins C dx [("_numbers", .ref t)])) ∧ (H t = some (.tup (ms.map V.int))) ∧ (H l = some (.lst us)) ∧ (Refs K C H ms d us a z x) ∧ (ms.length ≤ 5) ∧ (x ≠ .ref l) ∧ (SelfV z) ∧ ∀ H', FrX x H H' → (∀ q xs, x = .ref q → H q = some (.lst xs) → ∃ ys, H' q = some (.lst ys) ∧ ys.length = xs.length + 1) → Q (.bl true) H')
theorem r_law_refused {K : PySem.W.Frag} {C : Addr} {H : Hp} {Q : VK} {E : XK} {vv : List V} {d a : Int} {p l dx t : Addr} {ms : List Int} {us : List V} {z x : V} (ee : vv = [.int d, .ref p, .ref l, .int a, z]) (hp : H p = some (.ins C dx [("_numbers", .ref t)])) (ht : H t = some (.tup (ms.map V.int))) (hl : H l = some (.lst us)) (hr : Refs K C H ms d us a z x) (h5 : ms.length ≤ 5) (hx : x ≠ .ref l) (hz : SelfV z) (k : ∀ H', FrX x H H' → (∀ q xs, x = .ref q → H q = some (.lst xs) → ∃ ys, H' q = some (.lst ys) ∧ ys.length = xs.length + 1) → Q (.bl true) H') : sp_law_refused K C vv H Q E := by
  subst ee
  exact ⟨d, a, p, l, dx, t, ms, us, z, x, rfl, hp, ht, hl, hr, h5, hx, hz, k⟩
def sp_law_raised (K : PySem.W.Frag) (C : Addr) : Sp := fun vs H Q E => (∃ (p dx t a q : Addr) (ms : List Int) (n : Int), vs = [.ref p, .ref a, .ref q] ∧ (H p = some (.ins C dx [("_numbers", .ref t)])) ∧ (H t = some (.tup (ms.map V.int))) ∧ (H a = some (.lst (ms.map V.int))) ∧ (H q = some (.lst [.int n])) ∧ (0 ≤ n) ∧ (a ≠ q) ∧ (2 ≤ ms.length) ∧ (ms.length ≤ 5) ∧ (∀ n ∈ ms, 0 ≤ n) ∧ ∀ (k : Int) (H' : Hp), Fr1 q H H' → H' q = some (.lst [.int k]) → 0 ≤ k → Q (.bl true) H')
theorem r_law_raised {K : PySem.W.Frag} {C : Addr} {H : Hp} {Q : VK} {E : XK} {vv : List V} {p dx t a q : Addr} {ms : List Int} {n : Int} (ee : vv = [.ref p, .ref a, .ref q]) (hp : H p = some (.ins C dx [("_numbers", .ref t)])) (ht : H t = some (.tup (ms.map V.int))) (ha : H a = some (.lst (ms.map V.int))) (hq : H q = some (.lst [.int n])) (hn : 0 ≤ n) (haq : a ≠ q) (h2 : 2 ≤ ms.length) (h5 : ms.length ≤ 5) (hm : ∀ n ∈ ms, 0 ≤ n) (k : ∀ (k : Int) (H' : Hp), Fr1 q H H' → H' q = some (.lst [.int k]) → 0 ≤ k → Q (.bl true) H') : sp_law_raised K C vv H Q E := by
  subst ee
  exact ⟨p, dx, t, a, q, ms, n, rfl, hp, ht, ha, hq, hn, haq, h2, h5, hm, k⟩
def sp_law_from (K : PySem.W.Frag) (C : Addr) : Sp := fun vs H Q E => (∃ (p dx t a q dy u b : Addr) (ms ns : List Int), vs = [.ref p, .ref a, .ref q, .ref b] ∧ (H p = some (.ins C dx [("_numbers", .ref t)])) ∧ (H t = some (.tup (ms.map V.int))) ∧ (H a = some (.lst (ms.map V.int))) ∧ (H q = some (.ins C dy [("_numbers", .ref u)])) ∧ (H u = some (.tup (ns.map V.int))) ∧ (H b = some (.lst (ns.map V.int))) ∧ (ns.length = ms.length) ∧ (2 ≤ ms.length) ∧ (ms.length ≤ 5) ∧ (∀ n ∈ ms, 0 ≤ n) ∧ (∀ n ∈ ns, 0 ≤ n) ∧ ∀ H', Same H H' → Q (.bl true) H')
theorem r_law_from {K : PySem.W.Frag} {C : Addr} {H : Hp} {Q : VK} {E : XK} {vv : List V} {p dx t a q dy u b : Addr} {ms ns : List Int} (ee : vv = [.ref p, .ref a, .ref q, .ref b]) (hp : H p = some (.ins C dx [("_numbers", .ref t)])) (ht : H t = some (.tup (ms.map V.int))) (ha : H a = some (.lst (ms.map V.int))) (hq : H q = some (.ins C dy [("_numbers", .ref u)])) (hu : H u = some (.tup (ns.map V.int))) (hb : H b = some (.lst (ns.map V.int))) (hl : ns.length = ms.length) (h2 : 2 ≤ ms.length) (h5 : ms.length ≤ 5) (hm : ∀ n ∈ ms, 0 ≤ n) (hn : ∀ n ∈ ns, 0 ≤ n) (k : ∀ H', Same H H' → Q (.bl true) H') : sp_law_from K C vv H Q E := by
  subst ee
  exact ⟨p, dx, t, a, q, dy, u, b, ms, ns, rfl, hp, ht, ha, hq, hu, hb, hl, h2, h5, hm, hn, k⟩
def sp_law_some (K : PySem.W.Frag) : Sp := fun vs H Q E => (∃ (a q : Addr) (ms : List Int) (n : Int), vs = [.ref a, .ref q] ∧ (H a = some (.lst (ms.map V.int))) ∧ (H q = some (.lst [.int n])) ∧ (0 ≤ n) ∧ (a ≠ q) ∧ (ms.length ≤ 5) ∧ ∀ (l : Addr) (xs : List V) (cs : List (Int × Int)) (k : Int) (H' : Hp), Fr1 q H H' → H' q = some (.lst [.int k]) → 0 ≤ k → H l = none → l ≠ q → H' l = some (.lst xs) → All2 (PairD q H') xs cs → (∀ c ∈ cs, 0 ≤ c.1 ∧ c.1 ≤ (ms.length : Nat) - 1 ∧ 0 ≤ c.2) → (cs.map (·.1)).Nodup → cs.length ≤ 5 → Q (.ref l) H')
theorem r_law_some {K : PySem.W.Frag} {H : Hp} {Q : VK} {E : XK} {vv : List V} {a q : Addr} {ms : List Int} {n : Int} (ee : vv = [.ref a, .ref q]) (ha : H a = some (.lst (ms.map V.int))) (hq : H q = some (.lst [.int n])) (hn : 0 ≤ n) (haq : a ≠ q) (h5 : ms.length ≤ 5) (k : ∀ (l : Addr) (xs : List V) (cs : List (Int × Int)) (k : Int) (H' : Hp), Fr1 q H H' → H' q = some (.lst [.int k]) → 0 ≤ k → H l = none → l ≠ q → H' l = some (.lst xs) → All2 (PairD q H') xs cs → (∀ c ∈ cs, 0 ≤ c.1 ∧ c.1 ≤ (ms.length : Nat) - 1 ∧ 0 ≤ c.2) → (cs.map (·.1)).Nodup → cs.length ≤ 5 → Q (.ref l) H') : sp_law_some K vv H Q E := by
  subst ee
  exact ⟨a, q, ms, n, rfl, ha, hq, hn, haq, h5, k⟩
def sp_law_changed (K : PySem.W.Frag) (C : Addr) : Sp := fun vs H Q E => (∃ (p dx t a q : Addr) (ms : List Int) (n : Int), vs = [.ref p, .ref a, .ref q] ∧ (H p = some (.ins C dx [("_numbers", .ref t)])) ∧ (H t = some (.tup (ms.map V.int))) ∧ (H a = some (.lst (ms.map V.int))) ∧ (H q = some (.lst [.int n])) ∧ (0 ≤ n) ∧ (a ≠ q) ∧ (2 ≤ ms.length) ∧ (ms.length ≤ 5) ∧ (∀ n ∈ ms, 0 ≤ n) ∧ ∀ (k : Int) (H' : Hp), Fr1 q H H' → H' q = some (.lst [.int k]) → 0 ≤ k → Q (.bl true) H')
theorem r_law_changed {K : PySem.W.Frag} {C : Addr} {H : Hp} {Q : VK} {E : XK} {vv : List V} {p dx t a q : Addr} {ms : List Int} {n : Int} (ee : vv = [.ref p, .ref a, .ref q]) (hp : H p = some (.ins C dx [("_numbers", .ref t)])) (ht : H t = some (.tup (ms.map V.int))) (ha : H a = some (.lst (ms.map V.int))) (hq : H q = some (.lst [.int n])) (hn : 0 ≤ n) (haq : a ≠ q) (h2 : 2 ≤ ms.length) (h5 : ms.length ≤ 5) (hm : ∀ n ∈ ms, 0 ≤ n) (k : ∀ (k : Int) (H' : Hp), Fr1 q H H' → H' q = some (.lst [.int k]) → 0 ≤ k → Q (.bl true) H') : sp_law_changed K C vv H Q E := by
  subst ee
  exact ⟨p, dx, t, a, q, ms, n, rfl, hp, ht, ha, hq, hn, haq, h2, h5, hm, k⟩
def sp_law (K : PySem.W.Frag) : Sp := fun vs H Q E => (∃ (a : Addr) (ns : List Int), vs = [.ref a] ∧ (SqL K H a (ns.map V.int)) ∧ (ns.length ≤ 63) ∧ ∀ H', Q (.bl true) H')
theorem r_law {K : PySem.W.Frag} {H : Hp} {Q : VK} {E : XK} {vv : List V} {a : Addr} {ns : List Int} (ee : vv = [.ref a]) (hs : SqL K H a (ns.map V.int)) (hl : ns.length ≤ 63) (k : ∀ H', Q (.bl true) H') : sp_law K vv H Q E := by
  subst ee
  exact ⟨a, ns, rfl, hs, hl, k⟩

set_option hygiene false
local macro_rules | `(tactic| walk_at "xm1") => `(tactic| first | fail | exact PySem.W.exm_ref (T.exC_HallError) (T.hdx_HallError) (T.ty_HallError) (T.sb_NoCounts_HallError) | exact PySem.W.exm_ref (T.exC_NoCounts) (T.hdx_NoCounts) (T.ty_NoCounts) (T.sb_NoCounts_NoCounts) | exact PySem.W.exm_ref (T.exC_NoMember) (T.hdx_NoMember) (T.ty_NoMember) (T.sb_NoCounts_NoMember) | exact PySem.W.exm_ref (T.exC_NoNumber) (T.hdx_NoNumber) (T.ty_NoNumber) (T.sb_NoCounts_NoNumber) | exact PySem.W.exm_ref (T.exC_Unlike) (T.hdx_Unlike) (T.ty_Unlike) (T.sb_NoCounts_Unlike) | exact PySem.W.exm_ref (T.exC_HallError) (T.hdx_HallError) (T.ty_HallError) (T.sb_NoMember_HallError) | exact PySem.W.exm_ref (T.exC_NoCounts) (T.hdx_NoCounts) (T.ty_NoCounts) (T.sb_NoMember_NoCounts) | exact PySem.W.exm_ref (T.exC_NoMember) (T.hdx_NoMember) (T.ty_NoMember) (T.sb_NoMember_NoMember) | exact PySem.W.exm_ref (T.exC_NoNumber) (T.hdx_NoNumber) (T.ty_NoNumber) (T.sb_NoMember_NoNumber) | exact PySem.W.exm_ref (T.exC_Unlike) (T.hdx_Unlike) (T.ty_Unlike) (T.sb_NoMember_Unlike) | exact PySem.W.exm_ref (T.exC_HallError) (T.hdx_HallError) (T.ty_HallError) (T.sb_NoNumber_HallError) | exact PySem.W.exm_ref (T.exC_NoCounts) (T.hdx_NoCounts) (T.ty_NoCounts) (T.sb_NoNumber_NoCounts) | exact PySem.W.exm_ref (T.exC_NoMember) (T.hdx_NoMember) (T.ty_NoMember) (T.sb_NoNumber_NoMember) | exact PySem.W.exm_ref (T.exC_NoNumber) (T.hdx_NoNumber) (T.ty_NoNumber) (T.sb_NoNumber_NoNumber) | exact PySem.W.exm_ref (T.exC_Unlike) (T.hdx_Unlike) (T.ty_Unlike) (T.sb_NoNumber_Unlike) | exact PySem.W.exm_ref (T.exC_HallError) (T.hdx_HallError) (T.ty_HallError) (T.sb_Unlike_HallError) | exact PySem.W.exm_ref (T.exC_NoCounts) (T.hdx_NoCounts) (T.ty_NoCounts) (T.sb_Unlike_NoCounts) | exact PySem.W.exm_ref (T.exC_NoMember) (T.hdx_NoMember) (T.ty_NoMember) (T.sb_Unlike_NoMember) | exact PySem.W.exm_ref (T.exC_NoNumber) (T.hdx_NoNumber) (T.ty_NoNumber) (T.sb_Unlike_NoNumber) | exact PySem.W.exm_ref (T.exC_Unlike) (T.hdx_Unlike) (T.ty_Unlike) (T.sb_Unlike_Unlike) | fail)
local macro_rules | `(tactic| walk_at "xf") => `(tactic| first | fail | exact T.xf_NoCounts | exact T.xf_NoMember | exact T.xf_NoNumber | exact T.xf_Unlike | fail)
local macro_rules | `(tactic| walk_at "xc") => `(tactic| first | fail | exact T.xc_NoCounts | exact T.xc_NoMember | exact T.xc_NoNumber | exact T.xc_Unlike | fail)
local macro_rules | `(tactic| walk_at "xn") => `(tactic| first | fail | exact T.nf_NoCounts | exact T.nf_NoMember | exact T.nf_NoNumber | exact T.nf_Unlike | fail)
local macro_rules | `(tactic| walk_at "tya") => `(tactic| first | fail | ((refine' .base (.ins ?h1 (T.c_Counts) (T.ha_Counts) (T.hn) (T.htk) (T.hm_Counts))); (case h1 => assumption)) | fail)
local macro_rules | `(tactic| walk_at "tyo") => `(tactic| first | fail | ((refine' .base (.ins ?h1 (T.c_Counts) (T.ha_Counts) (T.hn) (T.htk) (T.hm_Counts))); (case h1 => walk_at "lk")) | fail)
local macro_rules | `(tactic| walk_at "kio") => `(tactic| first | fail | exact kit_sub (by decide +kernel) (T.ki_Counts) | exact kit_sub (by decide +kernel) (T.kl_Counts) | exact kit_sub (by decide +kernel) (T.kt_Counts) | exact kit_ref (T.hdx_HallError) (T.ty_HallError) (T.ss_HallError) (T.sb_NoCounts_HallError) | exact kit_ref (T.hdx_NoCounts) (T.ty_NoCounts) (T.ss_NoCounts) (T.sb_NoCounts_NoCounts) | exact kit_ref (T.hdx_NoMember) (T.ty_NoMember) (T.ss_NoMember) (T.sb_NoCounts_NoMember) | exact kit_ref (T.hdx_NoNumber) (T.ty_NoNumber) (T.ss_NoNumber) (T.sb_NoCounts_NoNumber) | exact kit_ref (T.hdx_Unlike) (T.ty_Unlike) (T.ss_Unlike) (T.sb_NoCounts_Unlike) | exact kit_ref (T.hdx_HallError) (T.ty_HallError) (T.ss_HallError) (T.sb_NoMember_HallError) | exact kit_ref (T.hdx_NoCounts) (T.ty_NoCounts) (T.ss_NoCounts) (T.sb_NoMember_NoCounts) | exact kit_ref (T.hdx_NoMember) (T.ty_NoMember) (T.ss_NoMember) (T.sb_NoMember_NoMember) | exact kit_ref (T.hdx_NoNumber) (T.ty_NoNumber) (T.ss_NoNumber) (T.sb_NoMember_NoNumber) | exact kit_ref (T.hdx_Unlike) (T.ty_Unlike) (T.ss_Unlike) (T.sb_NoMember_Unlike) | exact kit_ref (T.hdx_HallError) (T.ty_HallError) (T.ss_HallError) (T.sb_NoNumber_HallError) | exact kit_ref (T.hdx_NoCounts) (T.ty_NoCounts) (T.ss_NoCounts) (T.sb_NoNumber_NoCounts) | exact kit_ref (T.hdx_NoMember) (T.ty_NoMember) (T.ss_NoMember) (T.sb_NoNumber_NoMember) | exact kit_ref (T.hdx_NoNumber) (T.ty_NoNumber) (T.ss_NoNumber) (T.sb_NoNumber_NoNumber) | exact kit_ref (T.hdx_Unlike) (T.ty_Unlike) (T.ss_Unlike) (T.sb_NoNumber_Unlike) | exact kit_ref (T.hdx_HallError) (T.ty_HallError) (T.ss_HallError) (T.sb_Unlike_HallError) | exact kit_ref (T.hdx_NoCounts) (T.ty_NoCounts) (T.ss_NoCounts) (T.sb_Unlike_NoCounts) | exact kit_ref (T.hdx_NoMember) (T.ty_NoMember) (T.ss_NoMember) (T.sb_Unlike_NoMember) | exact kit_ref (T.hdx_NoNumber) (T.ty_NoNumber) (T.ss_NoNumber) (T.sb_Unlike_NoNumber) | exact kit_ref (T.hdx_Unlike) (T.ty_Unlike) (T.ss_Unlike) (T.sb_Unlike_Unlike) | with_reducible exact kit_self | exact kit_tyref (T.hdx_Counts) (T.ty_Counts) (T.nt_NoneType_Counts) | exact kit_tyref (T.hdx_Counts) (T.ty_Counts) (T.nt_bool_Counts) | exact kit_tyref (T.hdx_Counts) (T.ty_Counts) (T.nt_int_Counts) | exact kit_tyref (T.hdx_Counts) (T.ty_Counts) (T.nt_str_Counts) | exact kit_tyref (T.hdx_Counts) (T.ty_Counts) (T.nt_list_Counts) | exact kit_tyref (T.hdx_Counts) (T.ty_Counts) (T.nt_tuple_Counts) | exact kit_tyref (T.hdx_Counts) (T.ty_Counts) (T.nt_dict_Counts) | fail)
local macro_rules | `(tactic| walk_at "cls") => `(tactic| first | assumption | exact T.c_Counts | fail)
local macro_rules | `(tactic| walk_at "noa") => `(tactic| first | assumption | exact T.n_Counts__numbers | fail)
local macro_rules | `(tactic| walk_at "rc") => `(tactic| first
  | fail 
  | ((with_reducible refine' r_is_whole_1 ?ze  ?_); (case ze => exact rfl))
  | ((with_reducible refine' r_is_whole_2 ?ze  ?_); (case ze => exact rfl))
  | ((with_reducible refine' r_is_whole_3 ?ze  ?_); (case ze => exact rfl))
  | ((with_reducible refine' r_is_whole_4 ?ze ?z0 ?z1 ?_); (case ze => exact rfl); (case z0 => walk_at "tyx"); (case z1 => walk_at "kit"))
  | ((with_reducible refine' r_is_list ?ze ?z0 ?z1 ?_); (case ze => exact rfl); (case z0 => walk_at "tyx"); (case z1 => walk_at "kia"))
  | ((with_reducible refine' r_is_member_1 ?ze  ?_); (case ze => exact rfl))
  | ((with_reducible refine' r_is_member_2 ?ze ?z0 ?_); (case ze => exact rfl); (case z0 => walk_at "sd"))
  | ((with_reducible refine' r_check_member_1 ?ze ?z0 ?z1 ?_); (case ze => exact rfl); (case z0 => walk_at "sd"); (case z1 => walk_at "sd"))
  | ((with_reducible refine' r_check_member_2 ?ze ?z0 ?_); (case ze => exact rfl); (case z0 => walk_at "sd"))
  | ((with_reducible refine' r_are_changes_1 ?ze ?z0 ?z1 ?z2 ?_); (case ze => exact rfl); (case z0 => walk_at "sd"); (case z1 => walk_at "sd"); (case z2 => walk_at "sd"))
  | ((with_reducible refine' r_are_changes_2 ?ze ?z0 ?z1 ?_); (case ze => exact rfl); (case z0 => walk_at "tyx"); (case z1 => walk_at "kia"))
  | ((with_reducible refine' r_Counts_init ?ze ?z0 ?z1 ?z2 ?z3 ?z4 ?_); (case ze => exact rfl); (case z0 => walk_at "lk"); (case z1 => walk_at "lk"); (case z2 => walk_at "sd"); (case z3 => walk_at "sd"); (case z4 => walk_at "nn"))
  | ((with_reducible refine' r_Counts_len ?ze ?z0 ?z1 ?_); (case ze => exact rfl); (case z0 => walk_at "lk"); (case z1 => walk_at "lk"))
  | ((with_reducible refine' r_Counts_told ?ze ?z0 ?_); (case ze => exact rfl); (case z0 => walk_at "lk"))
  | ((with_reducible refine' r_Counts_eq ?ze ?z0 ?z1 ?z2 ?z3 ?_); (case ze => exact rfl); (case z0 => walk_at "lk"); (case z1 => walk_at "lk"); (case z2 => walk_at "lk"); (case z3 => walk_at "lk"))
  | ((with_reducible refine' r_Counts_of ?ze ?z0 ?z1 ?z2 ?z3 ?_); (case ze => exact rfl); (case z0 => walk_at "lk"); (case z1 => walk_at "lk"); (case z2 => walk_at "sd"); (case z3 => walk_at "sd"))
  | ((with_reducible refine' r_Counts_raised_1 ?ze ?z0 ?z1 ?z2 ?z3 ?z4 ?z5 ?z6 ?z7 ?_); (case ze => exact rfl); (case z0 => walk_at "lk"); (case z1 => walk_at "lk"); (case z2 => walk_at "sd"); (case z3 => walk_at "sd"); (case z4 => walk_at "sd"); (case z5 => walk_at "sd"); (case z6 => walk_at "sd"); (case z7 => walk_at "as"))
  | ((with_reducible refine' r_Counts_raised_2 ?ze ?z0 ?z1 ?z2 ?_); (case ze => exact rfl); (case z0 => walk_at "lk"); (case z1 => walk_at "lk"); (case z2 => walk_at "sd"))
  | ((with_reducible refine' r_Counts_raised_3 ?ze ?z0 ?z1 ?z2 ?z3 ?z4 ?_); (case ze => exact rfl); (case z0 => walk_at "lk"); (case z1 => walk_at "lk"); (case z2 => walk_at "sd"); (case z3 => walk_at "sd"); (case z4 => walk_at "sd"))
  | ((with_reducible refine' r_Counts_changes_from_1 ?ze ?z0 ?z1 ?z2 ?z3 ?z4 ?z5 ?_); (case ze => exact rfl); (case z0 => walk_at "lk"); (case z1 => walk_at "lk"); (case z2 => walk_at "lk"); (case z3 => walk_at "lk"); (case z4 => walk_at "sd"); (case z5 => walk_at "sd"))
  | ((with_reducible refine' r_Counts_changes_from_2 ?ze ?z0 ?z1 ?z2 ?z3 ?z4 ?z5 ?z6 ?_); (case ze => exact rfl); (case z0 => walk_at "lk"); (case z1 => walk_at "lk"); (case z2 => walk_at "lk"); (case z3 => walk_at "lk"); (case z4 => walk_at "sd"); (case z5 => walk_at "sd"); (case z6 => walk_at "sd"))
  | ((with_reducible refine' r_Counts_changes_from_3 ?ze ?z0 ?z1 ?z2 ?_); (case ze => exact rfl); (case z0 => walk_at "lk"); (case z1 => walk_at "tyx"); (case z2 => walk_at "kit"))
  | ((with_reducible refine' r_Counts_changed_1 ?ze ?z0 ?z1 ?z2 ?z3 ?z4 ?z5 ?z6 ?z7 ?z8 ?z9 ?_); (case ze => exact rfl); (case z0 => walk_at "lk"); (case z1 => walk_at "lk"); (case z2 => walk_at "sd"); (case z3 => walk_at "sd"); (case z4 => walk_at "as"); (case z5 => walk_at "sd"); (case z6 => walk_at "sd"); (case z7 => walk_at "sd"); (case z8 => walk_at "sd"); (case z9 => walk_at "as"))
  | ((with_reducible refine' r_Counts_changed_2 ?ze ?z0 ?z1 ?z2 ?z3 ?z4 ?z5 ?_); (case ze => exact rfl); (case z0 => walk_at "lk"); (case z1 => walk_at "lk"); (case z2 => walk_at "sd"); (case z3 => walk_at "sd"); (case z4 => walk_at "sd"); (case z5 => walk_at "sd"))
  | ((with_reducible refine' r_Counts_changed_3 ?ze ?z0 ?z1 ?z2 ?z3 ?_); (case ze => exact rfl); (case z0 => walk_at "lk"); (case z1 => walk_at "lk"); (case z2 => walk_at "tyx"); (case z3 => walk_at "kia"))
  | ((with_reducible refine' r_Counts_check_like_1 ?ze ?z0 ?z1 ?z2 ?z3 ?z4 ?z5 ?_); (case ze => exact rfl); (case z0 => walk_at "lk"); (case z1 => walk_at "lk"); (case z2 => walk_at "lk"); (case z3 => walk_at "lk"); (case z4 => walk_at "sd"); (case z5 => walk_at "sd"))
  | ((with_reducible refine' r_Counts_check_like_2 ?ze ?z0 ?z1 ?z2 ?z3 ?z4 ?z5 ?z6 ?_); (case ze => exact rfl); (case z0 => walk_at "lk"); (case z1 => walk_at "lk"); (case z2 => walk_at "lk"); (case z3 => walk_at "lk"); (case z4 => walk_at "sd"); (case z5 => walk_at "sd"); (case z6 => walk_at "sd"))
  | ((with_reducible refine' r_Counts_check_like_3 ?ze ?z0 ?z1 ?z2 ?_); (case ze => exact rfl); (case z0 => walk_at "lk"); (case z1 => walk_at "tyx"); (case z2 => walk_at "kit"))
  | ((with_reducible refine' r_law_pool ?ze  ?_); (case ze => exact rfl))
  | ((with_reducible refine' r_law_take ?ze ?z0 ?z1 ?z2 ?_); (case ze => exact rfl); (case z0 => walk_at "lk"); (case z1 => walk_at "sd"); (case z2 => walk_at "sd"))
  | ((with_reducible refine' r_law_numbers ?ze ?z0 ?z1 ?z2 ?z3 ?_); (case ze => exact rfl); (case z0 => walk_at "lk"); (case z1 => walk_at "sd"); (case z2 => walk_at "sd"); (case z3 => walk_at "sd"))
  | ((with_reducible refine' r_law_near ?ze ?z0 ?z1 ?z2 ?z3 ?z4 ?_); (case ze => exact rfl); (case z0 => walk_at "lk"); (case z1 => walk_at "lk"); (case z2 => walk_at "sd"); (case z3 => walk_at "sd"); (case z4 => walk_at "ne"))
  | ((with_reducible refine' r_law_first ?ze ?z0 ?z1 ?z2 ?z3 ?z4 ?z5 ?_); (case ze => exact rfl); (case z0 => walk_at "lk"); (case z1 => walk_at "lk"); (case z2 => walk_at "lk"); (case z3 => walk_at "sd"); (case z4 => walk_at "sd"); (case z5 => walk_at "sd"))
  | ((with_reducible refine' r_law_refused ?ze ?z0 ?z1 ?z2 ?z3 ?z4 ?z5 ?z6 ?_); (case ze => exact rfl); (case z0 => walk_at "lk"); (case z1 => walk_at "lk"); (case z2 => walk_at "lk"); (case z3 => walk_at "sd"); (case z4 => walk_at "sd"); (case z5 => walk_at "sd"); (case z6 => walk_at "sd"))
  | ((with_reducible refine' r_law_raised ?ze ?z0 ?z1 ?z2 ?z3 ?z4 ?z5 ?z6 ?z7 ?z8 ?_); (case ze => exact rfl); (case z0 => walk_at "lk"); (case z1 => walk_at "lk"); (case z2 => walk_at "lk"); (case z3 => walk_at "lk"); (case z4 => walk_at "sd"); (case z5 => walk_at "ne"); (case z6 => walk_at "sd"); (case z7 => walk_at "sd"); (case z8 => walk_at "as"))
  | ((with_reducible refine' r_law_from ?ze ?z0 ?z1 ?z2 ?z3 ?z4 ?z5 ?z6 ?z7 ?z8 ?z9 ?z10 ?_); (case ze => exact rfl); (case z0 => walk_at "lk"); (case z1 => walk_at "lk"); (case z2 => walk_at "lk"); (case z3 => walk_at "lk"); (case z4 => walk_at "lk"); (case z5 => walk_at "lk"); (case z6 => walk_at "sd"); (case z7 => walk_at "sd"); (case z8 => walk_at "sd"); (case z9 => walk_at "as"); (case z10 => walk_at "as"))
  | ((with_reducible refine' r_law_some ?ze ?z0 ?z1 ?z2 ?z3 ?z4 ?_); (case ze => exact rfl); (case z0 => walk_at "lk"); (case z1 => walk_at "lk"); (case z2 => walk_at "sd"); (case z3 => walk_at "ne"); (case z4 => walk_at "sd"))
  | ((with_reducible refine' r_law_changed ?ze ?z0 ?z1 ?z2 ?z3 ?z4 ?z5 ?z6 ?z7 ?z8 ?_); (case ze => exact rfl); (case z0 => walk_at "lk"); (case z1 => walk_at "lk"); (case z2 => walk_at "lk"); (case z3 => walk_at "lk"); (case z4 => walk_at "sd"); (case z5 => walk_at "ne"); (case z6 => walk_at "sd"); (case z7 => walk_at "sd"); (case z8 => walk_at "as"))
  | ((with_reducible refine' r_law ?ze ?z0 ?z1 ?_); (case ze => exact rfl); (case z0 => walk_at "sq"); (case z1 => walk_at "sd"))
  | fail)
set_option hygiene true
section
variable {P : Program} [PF P] {w : World} {K : PySem.W.Frag} {mg : Str → Option Value} {base : Heap}

theorem ok_is_whole (T : Tx K mg) : FnOk P w K mg base CX0 1 T.f_is_whole T.d_is_whole ["thing", "low", "high"] (sp_is_whole K) := by
  refine T.F_is_whole.ok sc_is_whole (fun vs H Q E h => ?_) (fun cdv A outer s H vs Q E hr h => ?_)
  · rcases h with ⟨n, a, rfl, k⟩ | ⟨n, a, b, rfl, k⟩ | ⟨c, y, z, rfl, k⟩ | ⟨x, y, z, t, rfl, ht, hk, k⟩
    all_goals rfl
  · have hu := hu_of hr
    refine ⟨_, (pss_cons (ps_if (PW.pt (pw_or (pt_not (pt_val (pe_callB (id := "isinstance") (kx_isi (K := K) rfl) (by rfl) T.z_isinstance (by decide +kernel) (pa_cons (pv 0) (pa_cons (pe_bltn (v := .ty "int") (u := .type "int") (by rfl) T.z_int (by decide +kernel) rfl) (pa_nil)))))) (pw_or1 (pt_val (pe_callB (id := "isinstance") (kx_isi (K := K) rfl) (by rfl) T.z_isinstance (by decide +kernel) (pa_cons (pv 0) (pa_cons (pe_bltn (v := .ty "bool") (u := .type "bool") (by rfl) T.z_bool (by decide +kernel) rfl) (pa_nil))))))))
      (pss_one (ps_ret pe_bl)) pss_nil)
      (pss_one (ps_ret (pe_and (pe_cmpR op_le (pv 1) (pv 0) (nomark _)) (pe_one (pe_or (pe_cmpR op_isNon (pv 2) pe_non (nomark _)) (pe_one (pe_cmpR op_le (pv 0) (pv 2) (nomark _))))))))), ?_⟩
    rcases h with ⟨n, a, rfl, k⟩ | ⟨n, a, b, rfl, k⟩ | ⟨c, y, z, rfl, k⟩ | ⟨x, y, z, t, rfl, ht, hk, k⟩
    · walk_at "rdx"
      all_goals exact R_of k (by walk_at "sv")
    · walk_at "rdx"
      all_goals exact R_of k (by walk_at "sv")
    · walk_at "rdx"
      exact k
    · walk_at "rdx"
      exact k
theorem ok_is_list (T : Tx K mg) : FnOk P w K mg base CX0 1 T.f_is_list T.d_is_list ["thing"] (sp_is_list K) := by
  refine T.F_is_list.ok sc_is_list (fun vs H Q E h => ?_) (fun cdv A outer s H vs Q E hr h => ?_)
  · rcases h with ⟨x, t, b, rfl, ht, hk, k⟩
    all_goals rfl
  · have hu := hu_of hr
    refine ⟨_, (pss_one (ps_ret (pe_callB (id := "isinstance") (kx_isiT (K := K) rfl) (by rfl) T.z_isinstance (by decide +kernel) (pa_cons (pv 0) (pa_cons (pe_tup (pa_cons (pe_bltn (v := .ty "list") (u := .type "list") (by rfl) T.z_list (by decide +kernel) rfl) (pa_cons (pe_bltn (v := .ty "tuple") (u := .type "tuple") (by rfl) T.z_tuple (by decide +kernel) rfl) (pa_nil)))) (pa_nil)))))), ?_⟩
    rcases h with ⟨x, t, b, rfl, ht, hk, k⟩
    (repeat walk_at "rd0")
    intro q hq
    with_reducible refine q_nil ?_
    refine q_isiT (us := [.type "list", .type "tuple"]) upd_same (.cons (.ty _) (.cons (.ty _) .nil)) (TyX.mono ht (Same.snew (Same.refl H) hq)) hk ?_
    exact k _ (Same.snew (Same.refl H) hq)
theorem ok_is_member (T : Tx K mg) : FnOk P w K mg base CX0 2 T.f_is_member T.d_is_member ["thing", "members"] (sp_is_member K) := by
  refine T.F_is_member.ok sc_is_member (fun vs H Q E h => ?_) (fun cdv A outer s H vs Q E hr h => ?_)
  · rcases h with ⟨n, m, rfl, k⟩ | ⟨x, m, rfl, hx, k⟩
    all_goals rfl
  · have hu := hu_of hr
    refine ⟨_, (pss_one (ps_ret (pe_call (ok_is_whole (P := P) T) (hr.mono (by decide)) rfl T.m_is_whole T.k_is_whole T.b_is_whole .nil pass0 (pa_cons (pv 0) (pa_cons pe_int (pa_cons (pe_op op_sub (pv 1) pe_int) (pa_nil))))))), ?_⟩
    rcases h with ⟨n, m, rfl, k⟩ | ⟨x, m, rfl, hx, k⟩
    · walk_at "rdx"
      exact k
    · rcases hx with ⟨n, rfl, hn⟩ | ⟨b, rfl⟩ | ⟨t, ht, hk⟩
      all_goals walk_at "rdx"
      all_goals exact R_of k (by walk_at "sv")
theorem ok_check_member (T : Tx K mg) : FnOk P w K mg base (L2.CX P w) 4 T.f_check_member T.d_check_member ["member", "members"] (sp_check_member K T.C_NoMember) := by
  refine T.F_check_member.okX sc_check_member (fun vs H Q E h => ?_) (fun cdv A outer s H vs Q E hr h => ?_)
  · rcases h with ⟨n, m, rfl, h0, h1, k⟩ | ⟨x, m, rfl, hx, k⟩
    all_goals rfl
  · have hu := hu_of hr
    refine ⟨_, (pss_one (ps_if (pt_not (pt_val (pe_call (ok_is_member (P := P) T) (hr.mono (by decide)) rfl T.m_is_member T.k_is_member T.b_is_member .nil pass0 (pa_cons (pv 0) (pa_cons (pv 1) (pa_nil))))))
      (pss_one (ps_raiseX rfl (takes_of rfl rfl rfl rfl) ‹PF P› T.ox_NoMember T.z_super (hr.mono (by decide)) rfl T.g_NoMember (pv 0))) pss_nil)), ?_⟩
    rcases h with ⟨n, m, rfl, h0, h1, k⟩ | ⟨x, m, rfl, hx, k⟩
    · walk_at "rdx"
      all_goals exact k
    · walk_at "rdx"
      exact k _ (by assumption)
theorem ok_are_changes (T : Tx K mg) : FnOk P w K mg base CX0 3 T.f_are_changes T.d_are_changes ["thing", "members", "low", "high"] (sp_are_changes K) := by
  refine T.F_are_changes.ok sc_are_changes (fun vs H Q E h => ?_) (fun cdv A outer s H vs Q E hr h => ?_)
  · rcases h with ⟨a, xs, os, m, rfl, ha, hs, hl, k⟩ | ⟨x, t, m, rfl, hx, hk, k⟩
    all_goals rfl
  · have hu := hu_of hr
    refine ⟨_, (pss_cons (ps_if (pt_not (pt_val (pe_call (ok_is_list (P := P) T) (hr.mono (by decide)) rfl T.m_is_list T.k_is_list T.b_is_list .nil pass0 (pa_cons (pv 0) (pa_nil)))))
      (pss_one (ps_ret pe_bl)) pss_nil)
      (pss_cons (ps_set (i := 4) sc_are_changes.nd rfl (Or.inl rfl) (pe_lst pa_nil))
      (pss_cons (ps_for (passes_of rfl) rfl (kpi_seq (K := K) rfl (pv 0)) (pg_name (i := 5) sc_are_changes.nd rfl (Or.inl rfl))
      (pss_cons (ps_if (PW.pt (pw_or (pt_not (pt_val (pe_callB (id := "isinstance") (kx_isi (K := K) rfl) (by rfl) T.z_isinstance (by decide +kernel) (pa_cons (pv 5) (pa_cons (pe_bltn (v := .ty "tuple") (u := .type "tuple") (by rfl) T.z_tuple (by decide +kernel) rfl) (pa_nil)))))) (pw_or1 (pt_cmpR op_ne (pe_callB (id := "len") (kx_len (K := K) rfl) (by rfl) T.z_len (by decide +kernel) (pa_cons (pv 5) (pa_nil))) pe_int (nomark _)))))
      (pss_one (ps_ret pe_bl)) pss_nil)
      (pss_cons (ps_asg (pv 5) (kg_tup (K := K) (n := 2) rfl rfl (pgs_cons (pg_name (i := 6) sc_are_changes.nd rfl (Or.inl rfl)) (pgs_cons (pg_name (i := 7) sc_are_changes.nd rfl (Or.inl rfl)) pgs_nil))))
      (pss_cons (ps_if (PW.pt (pw_or (pt_not (pt_val (pe_call (ok_is_member (P := P) T) (hr.mono (by decide)) rfl T.m_is_member T.k_is_member T.b_is_member .nil pass0 (pa_cons (pv 6) (pa_cons (pv 1) (pa_nil)))))) (pw_or (pt_not (pt_val (pe_call (ok_is_whole (P := P) T) (hr.mono (by decide)) rfl T.m_is_whole T.k_is_whole T.b_is_whole .nil pass0 (pa_cons (pv 7) (pa_cons (pv 2) (pa_cons (pv 3) (pa_nil))))))) (pw_or1 (pt_cmpR (ko_in (K := K) rfl) (pv 6) (pv 4) rfl)))))
      (pss_one (ps_ret pe_bl)) pss_nil)
      (pss_one (ps_expr (pe_bm PySem.F.plainAttrs_list PySem.F.slot_list_append PySem.F.type_list_append mt_append (pv 4) (pa_cons (pv 6) (pa_nil)))))))))
      (pss_one (ps_ret pe_bl))))), ?_⟩
    rcases h with ⟨a, xs, os, m, rfl, ha, hs, hl, k⟩ | ⟨x, t, m, rfl, hx, hk, k⟩
    · obtain ⟨ty, t1, t2⟩ := ha.ty (K := K)
      obtain ⟨o, ho, ha⟩ := ha.ob
      walk_at "rdn"
      intro H1 s1
      walk_at "rdn"
      intro D hD
      walk_at "rdn"
      have hDH : H D = none := by walk_at "fr"
      refine q_forSeq (xs := xs) rfl ho (by walk_at "lk") (fun i σ H9 => ∃ (seen : List Int) (u5 u6 u7 : Option V), σ = [some (.ref a), some (.int m), some (.int 0), some .non, some (.ref D), u5, u6, u7] ∧ Same H H9 ∧ H9 D = some (.lst (seen.map V.int)) ∧ seen.length ≤ i ∧ goC [] os = goC seen (os.drop i)) ⟨[], none, none, none, rfl, by walk_at "sm", upd_same, Nat.le_refl _, rfl⟩ (fun i σ H9 _ h => by obtain ⟨_, _, _, _, _, s9, _⟩ := h; exact s9 _ _ ha) ?_ ?_
      · rintro i x σ H9 hx ⟨seen, u5, u6, u7, rfl, s9, f1, f2, f3⟩
        have hi := (List.getElem?_eq_some_iff.mp hx).1
        obtain ⟨c, hc, hI⟩ := hs.get hx
        have e0 : os.drop i = c :: os.drop (i + 1) := by
          obtain ⟨hi2, e⟩ := List.getElem?_eq_some_iff.mp hc
          rw [List.drop_eq_getElem_cons hi2, e]
        rw [e0] at f3
        have hI9 := hI.same s9
        clear hI
        rcases hI9 with ⟨c, ⟨t, rfl, ht⟩, h0, h1, h2, rfl⟩ | ⟨rfl, hB⟩
        · walk_at "rdn"
          refine q_ifx (fun hm => ?_) (fun hm => ?_)
          · walk_at "rdn"
            exact R_of (k _ s9) (by rw [f3]; show V.bl (if c.1 ∈ seen then false else _) = _; rw [if_pos hm])
          · walk_at "rdn"
            refine ⟨seen ++ [c.1], _, _, _, rfl, s9.snew hDH, ?_, by simp; omega, ?_⟩
            · rw [upd_same, List.map_append]
              rfl
            · rw [f3]
              show (if c.1 ∈ seen then false else _) = _
              rw [if_neg hm]
        · rcases hB with ⟨ty2, h1, h2⟩ | ⟨t, ys, rfl, h1, h2, h3⟩ | ⟨t, y, z, rfl, h1, h2⟩ | ⟨t, j, z, rfl, h1, h2, h3, h4⟩
          · walk_at "rdn"
            exact R_of (k _ s9) (by rw [f3]; rfl)
          · walk_at "rdn"
            exact R_of (k _ s9) (by rw [f3]; rfl)
          · walk_at "rdn"
            exact R_of (k _ s9) (by rw [f3]; rfl)
          · rcases h4 with ⟨n, rfl, hn⟩ | ⟨b, rfl⟩ | ⟨t, ht, hk⟩
            all_goals walk_at "rdn"
            all_goals exact R_of (k _ s9) (by rw [f3]; rfl)
      · rintro σ H9 ⟨seen, u5, u6, u7, rfl, s9, f1, f2, f3⟩
        walk_at "rdn"
        rw [List.drop_of_length_le (by rw [← hs.len]; exact Nat.le_refl _)] at f3
        exact R_of (k _ s9) (by rw [f3]; rfl)
    · walk_at "rdn"
      intro H1 s1
      walk_at "rdn"
      exact k _ s1
theorem ok_Counts_init (T : Tx K mg) : FnOk P w K mg base CX0 3 T.f_Counts_init T.d_Counts_init ["self", "numbers"] (sp_Counts_init K T.C_Counts) := by
  refine T.F_Counts_init.ok sc_Counts_init (fun vs H Q E h => ?_) (fun cdv A outer s H vs Q E hr h => ?_)
  · rcases h with ⟨p, dx, a, xs, rfl, hp, ha, hl, hl2, hn, k⟩
    all_goals rfl
  · have hu := hu_of hr
    refine ⟨_, (pss_cons (ps_if (PW.pt (pw_or (pt_not (pt_val (pe_call (ok_is_list (P := P) T) (hr.mono (by decide)) rfl T.m_is_list T.k_is_list T.b_is_list .nil pass0 (pa_cons (pv 1) (pa_nil))))) (pw_or1 (pt_not (pt_chain op_le op_le (pe_glob (v := .int 2) rfl T.g_LEAST_MEMBERS ⟨_, rfl⟩) (pe_callB (id := "len") (kx_len (K := K) rfl) (by rfl) T.z_len (by decide +kernel) (pa_cons (pv 1) (pa_nil))) (pe_glob (v := .int 5) rfl T.g_MOST_MEMBERS ⟨_, rfl⟩))))))
      (pss_one ps_never) pss_nil)
      (pss_cons (ps_if (pt_not (pt_val (pe_callB (id := "all") (kx_all (K := K) rfl rfl) (by rfl) T.z_all (by decide +kernel) (pa_cons (pe_lc (own := [("number", 2)]) (g := gName 2) (tt := tYes) rfl sc_Counts_init.nd (kpi_list (K := K) rfl (pv 1)) (blkOk_by (own := [("number", 2)]) (N := ["self", "numbers", "number"]) (sc := defScope s_Counts_init) (by decide +kernel)) (fun _ _ _ _ _ => (pg_name (i := 2) sc_Counts_init.nd rfl (Or.inl rfl))) (fun _ _ _ _ _ => pts_nil) (fun _ _ _ _ _ => (pe_call (ok_is_whole (P := P) T) (hr.mono (by decide)) rfl T.m_is_whole T.k_is_whole T.b_is_whole_2 T.v_is_whole_2 pass0 (pa_cons (pv 2) (pa_cons pe_int (pa_nil)))))) (pa_nil)))))
      (pss_one ps_never) pss_nil)
      (pss_one (ps_fld (pv 0) (pe_callTy (T := "tuple") (kx_tuple (K := K) rfl) (by rfl) T.z_tuple (by decide +kernel) (pa_cons (pv 1) (pa_nil))) rfl)))), ?_⟩
    rcases h with ⟨p, dx, a, xs, rfl, hp, ha, hl, hl2, hn, k⟩
    walk_at "rdx"
    refine lc_itemsB (fun _ => true) (by walk_at "sq") (by omega) (by assumption) (fun x hx H2 R s2 hR => ?_) (fun H2 s2 e => ?_)
    · obtain ⟨n, rfl, h0⟩ := hn x hx
      walk_at "rd"
      exact R_of (hR H2 (Same.refl H2)) (by rw [decide_eq_true h0])
    · walk_at "rd"
      refine q_ifs (fun _ => ?_) (fun hf => absurd hf (by simp))
      walk_at "rd"
      exact k _ _ (fun b o hb e => by walk_at "lk") upd_same (by walk_at "lk")
theorem ok_Counts_len (T : Tx K mg) : FnOk P w K mg base CX0 1 T.f_Counts_len T.d_Counts_len ["self"] (sp_Counts_len K T.C_Counts) := by
  refine T.F_Counts_len.ok sc_Counts_len (fun vs H Q E h => ?_) (fun cdv A outer s H vs Q E hr h => ?_)
  · rcases h with ⟨p, dx, t, xs, rfl, hp, ht, k⟩
    all_goals rfl
  · have hu := hu_of hr
    refine ⟨_, (pss_one (ps_ret (pe_callB (id := "len") (kx_len (K := K) rfl) (by rfl) T.z_len (by decide +kernel) (pa_cons (kp_fld (K := K) rfl (pv 0) rfl) (pa_nil))))), ?_⟩
    rcases h with ⟨p, dx, t, xs, rfl, hp, ht, k⟩
    walk_at "rd"
    exact k
theorem ok_Counts_told (T : Tx K mg) : FnOk P w K mg base CX0 1 T.f_Counts_told T.d_Counts_told ["self"] (sp_Counts_told K T.C_Counts) := by
  refine T.F_Counts_told.ok sc_Counts_told (fun vs H Q E h => ?_) (fun cdv A outer s H vs Q E hr h => ?_)
  · rcases h with ⟨p, dx, t, rfl, hp, k⟩
    all_goals rfl
  · have hu := hu_of hr
    refine ⟨_, (pss_one (ps_ret (kp_fld (K := K) rfl (pv 0) rfl))), ?_⟩
    rcases h with ⟨p, dx, t, rfl, hp, k⟩
    walk_at "rd"
    exact k
theorem ok_Counts_eq (T : Tx K mg) : FnOk P w K mg base CX0 1 T.f_Counts_eq T.d_Counts_eq ["self", "other"] (sp_Counts_eq K T.C_Counts) := by
  refine T.F_Counts_eq.ok sc_Counts_eq (fun vs H Q E h => ?_) (fun cdv A outer s H vs Q E hr h => ?_)
  · rcases h with ⟨p, dx, t, q, dy, u, ms, ns, rfl, hp, ht, hq, hu, k⟩
    all_goals rfl
  · have hu := hu_of hr
    refine ⟨_, (pss_one (ps_ret (pe_and (pe_callB (id := "isinstance") (kx_isi (K := K) rfl) (by rfl) T.z_isinstance (by decide +kernel) (pa_cons (pv 1) (pa_cons (pe_glob (v := .ref T.C_Counts) rfl T.g_Counts rfl) (pa_nil)))) (pe_one (pe_cmpR (ko_eqD (K := K) rfl hr.units) (kp_fld (K := K) rfl (pv 0) rfl) (kp_fld (K := K) rfl (pv 1) rfl) (nomark _)))))), ?_⟩
    rcases h with ⟨p, dx, t, q, dy, u, ms, ns, rfl, hp, ht, hq, hu, k⟩
    walk_at "rd"
    exact k
theorem ok_Counts_of (T : Tx K mg) : FnOk P w K mg base (L2.CX P w) 5 T.f_Counts_of T.d_Counts_of ["self", "member"] (sp_Counts_of K T.C_Counts) := by
  refine T.F_Counts_of.okX sc_Counts_of (fun vs H Q E h => ?_) (fun cdv A outer s H vs Q E hr h => ?_)
  · rcases h with ⟨p, dx, t, ms, j, rfl, hp, ht, h0, h1, k⟩
    all_goals rfl
  · have hu := hu_of hr
    refine ⟨_, (pss_cons (ps_expr (pe_callSD (ok_check_member (P := P) T) (hr.mono (by decide)) rfl T.m_check_member T.k_check_member T.b_check_member .nil (fun σ => passX (takes_of rfl rfl rfl rfl) σ) (pa_cons (pv 1) (pa_cons (pe_callB (id := "len") (kx_len (K := K) rfl) (by rfl) T.z_len (by decide +kernel) (pa_cons (kp_fld (K := K) rfl (pv 0) rfl) (pa_nil))) (pa_nil)))))
      (pss_one (ps_ret (pe_ix (ki_tup (K := K) rfl) (kp_fld (K := K) rfl (pv 0) rfl) (pv 1) (fun _ _ => rfl))))), ?_⟩
    rcases h with ⟨p, dx, t, ms, j, rfl, hp, ht, h0, h1, k⟩
    obtain ⟨i, rfl⟩ := Int.eq_ofNat_of_zero_le h0
    walk_at "rdn"
    exact k
theorem ok_Counts_changed (T : Tx K mg) : FnOk P w K mg base (L2.CX P w) 5 T.f_Counts_changed T.d_Counts_changed ["self", "changes"] (sp_Counts_changed K T.C_Counts T.C_NoCounts) := by
  refine T.F_Counts_changed.okX sc_Counts_changed (fun vs H Q E h => ?_) (fun cdv A outer s H vs Q E hr h => ?_)
  · rcases h with ⟨p, dx, t, a, ms, xs, cs, rfl, hp, ht, ha, hs, hc, hd, hl, h2, h5, hm, k⟩ | ⟨p, dx, t, a, ms, xs, os, rfl, hp, ht, ha, hs, hg, hl, k⟩ | ⟨p, dx, t, ms, x, ty, rfl, hp, ht, hx, hk, k⟩
    all_goals rfl
  · have hu := hu_of hr
    refine ⟨_, (pss_cons (ps_if (pt_not (pt_val (pe_call (ok_are_changes (P := P) T) (hr.mono (by decide)) rfl T.m_are_changes T.k_are_changes T.b_are_changes_3 T.v_are_changes_3 pass0 (pa_cons (pv 1) (pa_cons (pe_callB (id := "len") (kx_len (K := K) rfl) (by rfl) T.z_len (by decide +kernel) (pa_cons (kp_fld (K := K) rfl (pv 0) rfl) (pa_nil))) (pa_cons pe_int (pa_nil)))))))
      (pss_one (ps_raiseX rfl (takes_of rfl rfl rfl rfl) ‹PF P› T.ox_NoCounts T.z_super (hr.mono (by decide)) rfl T.g_NoCounts (pv 1))) pss_nil)
      (pss_cons (ps_set (i := 2) sc_Counts_changed.nd rfl (Or.inl rfl) (pe_callTy (T := "list") (kx_list (K := K) rfl) (by rfl) T.z_list (by decide +kernel) (pa_cons (kp_fld (K := K) rfl (pv 0) rfl) (pa_nil))))
      (pss_cons (ps_for (passes_of rfl) rfl (kpi_seq (K := K) rfl (pv 1)) (kg_tup (K := K) (n := 2) rfl rfl (pgs_cons (pg_name (i := 3) sc_Counts_changed.nd rfl (Or.inl rfl)) (pgs_cons (pg_name (i := 4) sc_Counts_changed.nd rfl (Or.inl rfl)) pgs_nil)))
      (pss_one (ps_asg (pv 4) (pg_sub (pv 2) (pv 3) set_list))))
      (pss_one (ps_ret (pe_make T.mk_Counts (ok_Counts_init (P := P) T) (hr.mono (by decide)) rfl T.g_Counts T.b_Counts_init .nil pass0 (pa_cons (pv 2) (pa_nil)))))))), ?_⟩
    rcases h with ⟨p, dx, t, a, ms, xs, cs, rfl, hp, ht, ha, hs, hc, hd, hl, h2, h5, hm, k⟩ | ⟨p, dx, t, a, ms, xs, os, rfl, hp, ht, ha, hs, hg, hl, k⟩ | ⟨p, dx, t, ms, x, ty, rfl, hp, ht, hx, hk, k⟩
    · have hg : goC [] (cs.map some) = true := goC_good (by simp) hd
      have hs2 : All2 (ItC K H (ms.length : Nat)) xs (cs.map some) := by
        have h0 : All2 (fun x c => PairAt H x c ∧ c ∈ cs) xs cs := by
          clear hg hl hd hc ha k
          induction hs with
          | nil => exact .nil
          | cons a _ ih => exact .cons ⟨a, List.mem_cons_self⟩ (ih.mono fun x c z => ⟨z.1, List.mem_cons_of_mem _ z.2⟩)
        exact h0.maps fun x c z => .inl ⟨c, z.1, (hc c z.2).1, (hc c z.2).2.1, (hc c z.2).2.2, rfl⟩
      rw [show ((ms.length : Nat) : Int) = ((ms.map V.int).length : Nat) by rw [List.length_map]] at hs2
      walk_at "rdn"
      intro H1 s1
      obtain ⟨o, ho, ha⟩ := ha.ob
      rw [hg]
      walk_at "rdn"
      intro D hD
      walk_at "rdn"
      have hDH : H D = none := by walk_at "fr"
      refine q_forSeq (xs := xs) rfl ho (by walk_at "lk") (fun i σ H9 => ∃ (u3 u4 : Option V), σ = [some (.ref p), some (.ref a), some (.ref D), u3, u4] ∧ Same H H9 ∧ H9 D = some (.lst ((applyC ms (cs.take i)).map V.int))) ⟨none, none, rfl, by walk_at "sm", by rw [upd_same]; rfl⟩ (fun i σ H9 _ h => by obtain ⟨_, _, _, s9, _⟩ := h; exact s9 _ _ ha) ?_ ?_
      · rintro i x σ H9 hx ⟨u3, u4, rfl, s9, f1⟩
        obtain ⟨c, hci, t, rfl, ht9⟩ := hs.get hx
        have ht9 := s9 _ _ ht9
        obtain ⟨c1, c2, c3⟩ := hc c (List.mem_of_getElem? hci)
        obtain ⟨j, hj⟩ := Int.eq_ofNat_of_zero_le c1
        have e9 := applyC_snoc (ms := ms) hci
        rw [hj, Int.toNat_natCast] at e9
        rw [hj] at ht9
        walk_at "rdn"
        refine q_setL (j := j) (by walk_at "lk") (ixN_at (by rw [List.length_map, applyC_len]; omega)) ?_
        walk_at "rdn"
        exact ⟨_, _, rfl, s9.snew hDH, by rw [upd_same, e9, List.map_set]⟩
      · rintro σ H9 ⟨u3, u4, rfl, s9, f1⟩
        rw [List.take_of_length_le (by rw [← hs.len]; exact Nat.le_refl _)] at f1
        have l9 : (applyC ms cs).length = ms.length := applyC_len
        have nn := NN.of (applyC_pos hm fun c z => (hc c z).2.2)
        walk_at "rdn"
        intro r dr nr ndr ner
        walk_at "rdn"
        intro v H8 f8 g1 g2
        walk_at "rdn"
        exact k r dr v H8 (fun b o eb => f8 b o (by walk_at "ne") (by walk_at "lk")) g1 g2
    · rw [show ((ms.length : Nat) : Int) = ((ms.map V.int).length : Nat) by rw [List.length_map]] at hs
      walk_at "rdn"
      intro H1 s1
      rw [hg]
      walk_at "rd"
      exact k _ _ (by walk_at "sm") upd_same
    · walk_at "rd"
      exact k _ _ (by walk_at "sm") upd_same
theorem ok_Counts_raised (T : Tx K mg) : FnOk P w K mg base (L2.CX P w) 6 T.f_Counts_raised T.d_Counts_raised ["self", "member", "by"] (sp_Counts_raised K T.C_Counts T.C_NoNumber T.C_NoMember) := by
  refine T.F_Counts_raised.ok sc_Counts_raised (fun vs H Q E h => ?_) (fun cdv A outer s H vs Q E hr h => ?_)
  · rcases h with ⟨p, dx, t, ms, j, n, rfl, hp, ht, h0, h1, hn, h2, h5, hm, k⟩ | ⟨p, dx, t, ms, x, y, rfl, hp, ht, hx, k⟩ | ⟨p, dx, t, ms, j, y, rfl, hp, ht, h0, h1, hy, k⟩
    all_goals rfl
  · have hu := hu_of hr
    refine ⟨_, (pss_cons (ps_expr (pe_callSD (ok_check_member (P := P) T) (hr.mono (by decide)) rfl T.m_check_member T.k_check_member T.b_check_member .nil (fun σ => passX (takes_of rfl rfl rfl rfl) σ) (pa_cons (pv 1) (pa_cons (pe_callB (id := "len") (kx_len (K := K) rfl) (by rfl) T.z_len (by decide +kernel) (pa_cons (kp_fld (K := K) rfl (pv 0) rfl) (pa_nil))) (pa_nil)))))
      (pss_cons (ps_if (pt_not (pt_val (pe_call (ok_is_whole (P := P) T) (hr.mono (by decide)) rfl T.m_is_whole T.k_is_whole T.b_is_whole_2 T.v_is_whole_2 pass0 (pa_cons (pv 2) (pa_cons pe_int (pa_nil))))))
      (pss_one (ps_raiseX rfl (takes_of rfl rfl rfl rfl) ‹PF P› T.ox_NoNumber T.z_super (hr.mono (by decide)) rfl T.g_NoNumber (pv 2))) pss_nil)
      (pss_one (ps_ret (pe_methE (pv 0) T.c_Counts T.mt_Counts_changed (ok_Counts_changed (P := P) T) (hr.mono (by decide)) T.b_Counts_changed .nil (fun σ => passX (takes_of rfl rfl rfl rfl) σ) (pa_cons (pe_lst (pa_cons (pe_tup (pa_cons (pv 1) (pa_cons (pe_op op_add (pe_ix (ki_tup (K := K) rfl) (kp_fld (K := K) rfl (pv 0) rfl) (pv 1) (fun _ _ => rfl)) (pv 2)) (pa_nil)))) (pa_nil))) (pa_nil))))))), ?_⟩
    rcases h with ⟨p, dx, t, ms, j, n, rfl, hp, ht, h0, h1, hn, h2, h5, hm, k⟩ | ⟨p, dx, t, ms, x, y, rfl, hp, ht, hx, k⟩ | ⟨p, dx, t, ms, j, y, rfl, hp, ht, h0, h1, hy, k⟩
    · obtain ⟨i, rfl⟩ := Int.eq_ofNat_of_zero_le h0
      walk_at "rdn"
      intro p1 hp1
      walk_at "rdn"
      intro p2 hp2
      walk_at "rdn"
      have hmi : 0 ≤ ms.getD i 0 := by
        rw [List.getD_eq_getElem?_getD, List.getElem?_eq_getElem (show i < ms.length by omega)]
        exact hm _ (List.getElem_mem _)
      refine r_Counts_changed_1 rfl (hp := by walk_at "lk") (ht := by walk_at "lk") (ha := .inl upd_same) (xs := [.ref p1]) (cs := [((i : Int), ms.getD i 0 + n)]) (hs := .cons ⟨p1, rfl, by walk_at "lk"⟩ .nil) (hc := fun c hc => by rw [List.mem_singleton.mp hc]; exact ⟨h0, by show (i : Int) ≤ _; omega, by show 0 ≤ ms.getD i 0 + n; omega⟩) (hd := by simp) (hl := by simp) (h2 := h2) (h5 := h5) (hm := hm) ?_
      intro r dz v H9 s9 g1 g2
      exact k r dz v H9 (by walk_at "sm") g1 g2
    · rw [show ((ms.length : Nat) : Int) = ((ms.map V.int).length : Nat) by rw [List.length_map]] at hx
      walk_at "rd"
      exact k _ (by assumption)
    · rcases hy with ⟨n, rfl, hn⟩ | ⟨b, rfl⟩ | ⟨t, ht, hk⟩
      all_goals walk_at "rd"
      all_goals exact k _ (by assumption)
theorem ok_Counts_check_like (T : Tx K mg) : FnOk P w K mg base (L2.CX P w) 3 T.f_Counts_check_like T.d_Counts_check_like ["self", "other"] (sp_Counts_check_like K T.C_Counts T.C_NoCounts T.C_Unlike) := by
  refine T.F_Counts_check_like.okX sc_Counts_check_like (fun vs H Q E h => ?_) (fun cdv A outer s H vs Q E hr h => ?_)
  · rcases h with ⟨p, dx, t, q, dy, u, ms, ns, rfl, hp, ht, hq, hu, hl, hs, k⟩ | ⟨p, dx, t, q, dy, u, ms, ns, rfl, hp, ht, hq, hu, hl, hs, hs2, k⟩ | ⟨p, dx, t, x, ty, rfl, hp, hx, hk, k⟩
    all_goals rfl
  · have hu := hu_of hr
    refine ⟨_, (pss_cons (ps_if (pt_not (pt_val (pe_callB (id := "isinstance") (kx_isi (K := K) rfl) (by rfl) T.z_isinstance (by decide +kernel) (pa_cons (pv 1) (pa_cons (pe_glob (v := .ref T.C_Counts) rfl T.g_Counts rfl) (pa_nil))))))
      (pss_one (ps_raiseX rfl (takes_of rfl rfl rfl rfl) ‹PF P› T.ox_NoCounts T.z_super (hr.mono (by decide)) rfl T.g_NoCounts (pv 1))) pss_nil)
      (pss_one (ps_if (pt_cmpR op_ne (pe_callB (id := "len") (call_lenO rfl T.mt_Counts_len.at_ T.mt_Counts_len.fn (ok_Counts_len (P := P) T) (hr.mono (by decide)) T.b_Counts_len pass0) (by rfl) T.z_len (by decide +kernel) (pa_cons (pv 1) (pa_nil))) (pe_callB (id := "len") (kx_len (K := K) rfl) (by rfl) T.z_len (by decide +kernel) (pa_cons (kp_fld (K := K) rfl (pv 0) rfl) (pa_nil))) (nomark _))
      (pss_one (ps_raiseX rfl (takes_of rfl rfl rfl rfl) ‹PF P› T.ox_Unlike T.z_super (hr.mono (by decide)) rfl T.g_Unlike (pv 1))) pss_nil))), ?_⟩
    rcases h with ⟨p, dx, t, q, dy, u, ms, ns, rfl, hp, ht, hq, hu, hl, hs, k⟩ | ⟨p, dx, t, q, dy, u, ms, ns, rfl, hp, ht, hq, hu, hl, hs, hs2, k⟩ | ⟨p, dx, t, x, ty, rfl, hp, hx, hk, k⟩
    · walk_at "rd"
      exact k
    · walk_at "rd"
      exact k _ (by assumption)
    · walk_at "rd"
      exact k _ (by assumption)
theorem ok_Counts_changes_from (T : Tx K mg) : FnOk P w K mg base (L2.CX P w) 6 T.f_Counts_changes_from T.d_Counts_changes_from ["self", "other"] (sp_Counts_changes_from K T.C_Counts T.C_NoCounts T.C_Unlike) := by
  refine T.F_Counts_changes_from.okX sc_Counts_changes_from (fun vs H Q E h => ?_) (fun cdv A outer s H vs Q E hr h => ?_)
  · rcases h with ⟨p, dx, t, q, dy, u, ms, ns, rfl, hp, ht, hq, hu, hl, hs, k⟩ | ⟨p, dx, t, q, dy, u, ms, ns, rfl, hp, ht, hq, hu, hl, hs, hs2, k⟩ | ⟨p, dx, t, x, ty, rfl, hp, hx, hk, k⟩
    all_goals rfl
  · have hu := hu_of hr
    refine ⟨_, (pss_cons (ps_expr (pe_methE (pv 0) T.c_Counts T.mt_Counts_check_like (ok_Counts_check_like (P := P) T) (hr.mono (by decide)) T.b_Counts_check_like .nil (fun σ => passX (takes_of rfl rfl rfl rfl) σ) (pa_cons (pv 1) (pa_nil))))
      (pss_one (ps_ret (pe_lc (own := [("member", 2), ("number", 3)]) (g := (gTup K 2 ((gCons (gName 2) (gCons (gName 3) gNil))))) rfl sc_Counts_changes_from.nd (pi_enumT (K := K) rfl (by rfl) T.z_enumerate (pa_cons (kp_fld (K := K) rfl (pv 0) rfl) (pa_nil))) (blkOk_by (own := [("member", 2), ("number", 3)]) (N := ["self", "other", "member", "number"]) (sc := defScope s_Counts_changes_from) (by decide +kernel)) (fun _ _ _ _ _ => (kg_tup (K := K) (n := 2) rfl rfl (pgs_cons (pg_name (i := 2) sc_Counts_changes_from.nd rfl (Or.inl rfl)) (pgs_cons (pg_name (i := 3) sc_Counts_changes_from.nd rfl (Or.inl rfl)) pgs_nil)))) (fun _ _ _ _ _ => (pts_one (pt_cmpR op_ne (pv 3) (pe_meth (pv 1) T.c_Counts T.mt_Counts_of (ok_Counts_of (P := P) T) (hr.mono (by decide)) T.b_Counts_of .nil passL (pa_cons (pv 2) (pa_nil))) (nomark _)))) (fun _ _ _ _ _ => (pe_tup (pa_cons (pv 2) (pa_cons (pv 3) (pa_nil))))))))), ?_⟩
    rcases h with ⟨p, dx, t, q, dy, u, ms, ns, rfl, hp, ht, hq, hu, hl, hs, k⟩ | ⟨p, dx, t, q, dy, u, ms, ns, rfl, hp, ht, hq, hu, hl, hs, hs2, k⟩ | ⟨p, dx, t, x, ty, rfl, hp, hx, hk, k⟩
    · walk_at "rdn"
      intro D hD
      refine lc_it walk_enumT (fun i H9 => Same H H9 ∧ ∃ ys, All2 (PairD D H9) ys (diffC ms ns i) ∧ H9 D = some (.lst ys)) ⟨Same.new hD, [], .nil, upd_same⟩ (fun i H9 _ h => SqT.of (h.1 _ _ ht)) ?_ ?_
      · rintro i x H2 H3 hi ⟨s2, ys, hP, hD2⟩ ⟨tt, u1, u2, rfl, hT, rfl, e1, e2⟩
        have hi2 : i < ms.length := by simpa using hi
        obtain rfl : u1 = .int (i : Nat) := (Option.some.inj e1).symm
        obtain rfl : u2 = .int (ms.getD i 0) := by
          dsimp only at e2
          rw [List.getElem?_map, List.getElem?_eq_getElem hi2] at e2
          rw [List.getD_eq_getElem?_getD, List.getElem?_eq_getElem hi2]
          exact (Option.some.inj e2).symm
        have hDD : D ≠ tt := by walk_at "ne"
        have hl2 := hP.len
        have hl3 := diffC_len (ms := ms) (ns := ns) (k := i)
        walk_at "rdn"
        refine ⟨rfl, ?_⟩
        walk_at "rdn"
        rw [Int.toNat_natCast]
        refine q_ifx (fun hb => ?_) (fun hb => ?_)
        · refine ⟨s2.trans (Same.new hT), ys, ?_, by walk_at "lk"⟩
          unfold diffC
          rw [if_pos hb]
          exact hP.mono fun x c z => z.same (Same.new hT)
        · walk_at "rdn"
          intro p3 hp3
          walk_at "rdn"
          refine ⟨ys, by walk_at "lk", line_lt (by omega), ((s2.trans (Same.new hT)).trans (Same.new hp3)).snew hD, ys ++ [.ref p3], ?_, upd_same⟩
          unfold diffC
          rw [if_neg hb]
          exact All2.snoc (hP.mono fun x c z => (z.same ((Same.new hT).trans (Same.new hp3))).upd) ⟨p3, rfl, by walk_at "ne", (upd_ne (by walk_at "ne")).trans upd_same⟩
      · rintro H9 ⟨s9, ys, hP, e9⟩
        rw [List.length_map] at hP
        exact k D ys H9 s9 hD e9 hP
    · walk_at "rd"
      exact k _ (by assumption)
    · walk_at "rd"
      exact k _ (by assumption)
theorem ok_law_take (T : Tx K mg) : FnOk P w K mg base CX0 1 T.f_law_take T.d_law_take ["pool", "size"] (sp_law_take ) := by
  refine T.F_law_take.ok sc_law_take (fun vs H Q E h => ?_) (fun cdv A outer s H vs Q E hr h => ?_)
  · rcases h with ⟨p, n, m, rfl, hp, hm, hb, k⟩
    all_goals rfl
  · have hu := hu_of hr
    refine ⟨_, (pss_cons (ps_set (i := 2) sc_law_take.nd rfl (Or.inl rfl) (pe_op op_mod (pe_ix (ki_list (K := K) rfl) (pv 0) pe_int (fun _ _ => rfl)) (pv 1)))
      (pss_cons (ps_asg (pe_op op_fdivW (pe_ix (ki_list (K := K) rfl) (pv 0) pe_int (fun _ _ => rfl)) (pv 1)) (pg_sub (pv 0) pe_int set_list))
      (pss_one (ps_ret (pv 2))))), ?_⟩
    rcases h with ⟨p, n, m, rfl, hp, hm, hb, k⟩
    walk_at "rd"
    exact k
theorem ok_law_pool (T : Tx K mg) : FnOk P w K mg base CX0 1 T.f_law_pool T.d_law_pool ["cell"] (sp_law_pool ) := by
  refine T.F_law_pool.ok sc_law_pool (fun vs H Q E h => ?_) (fun cdv A outer s H vs Q E hr h => ?_)
  · rcases h with ⟨cell, rfl, k⟩
    all_goals rfl
  · have hu := hu_of hr
    refine ⟨_, (pss_cons (ps_if (pt_cmpR op_ge (pv 0) (pe_op op_pow pe_int pe_int) (nomark _))
      (pss_one (ps_ret (pe_lst (pa_cons (pv 0) (pa_nil))))) pss_nil)
      (pss_cons (ps_set (i := 1) sc_law_pool.nd rfl (Or.inl rfl) pe_int)
      (pss_cons (ps_for PassesOwn.never rfl (pi_range1 rfl T.z_range (pa_cons pe_int (pa_nil))) (pg_name (i := 2) sc_law_pool.nd rfl (Or.inl rfl))
      (pss_cons (ps_set (i := 3) sc_law_pool.nd rfl (Or.inl rfl) (pe_op op_mod (pe_op op_pow (pe_op op_add (pe_op op_add (pe_op op_mul (pe_op op_mod (pv 0) pe_int) pe_int) (pe_op op_mul pe_int (pv 2))) pe_int) pe_int) pe_int))
      (pss_one (ps_set (i := 1) sc_law_pool.nd rfl (Or.inl rfl) (pe_op op_add (pe_op op_mul (pv 1) pe_int) (pe_op op_mod (pe_op op_pow (pe_op op_add (pe_op op_mul (pv 3) pe_int) (pv 2)) pe_int) pe_int))))))
      (pss_one (ps_ret (pe_lst (pa_cons (pv 1) (pa_nil)))))))), ?_⟩
    rcases h with ⟨cell, rfl, k⟩
    walk_at "rd"
    refine q_ifx (fun hc => ?_) (fun hc => ?_)
    · walk_at "rd"
      have : (10:Int) ^ Int.toNat 18 = 1000000000000000000 := by decide
      exact k _ _ (by assumption) (by omega)
    · walk_at "rd"
      refine for_range (n := 9) (fun i σ H' => ∃ (z : Int) (a b : Option V), σ = [some (.int cell), some (.int z), a, b] ∧ 0 ≤ z ∧ H' = H) ⟨0, none, none, rfl, Int.le_refl _, rfl⟩ ?_ ?_
      · rintro i σ H' hi ⟨z, a, b, rfl, hz, rfl⟩
        walk_at "rd"
        exact ⟨_, _, _, rfl, by omega, rfl⟩
      · rintro σ H' ⟨z, a, b, rfl, hz, rfl⟩
        walk_at "rd"
        exact k _ _ (by assumption) hz
theorem ok_law_numbers (T : Tx K mg) : FnOk P w K mg base CX0 2 T.f_law_numbers T.d_law_numbers ["pool", "members"] (sp_law_numbers K) := by
  refine T.F_law_numbers.ok sc_law_numbers (fun vs H Q E h => ?_) (fun cdv A outer s H vs Q E hr h => ?_)
  · rcases h with ⟨p, n, m, rfl, hp, hn, hm, h5, k⟩
    all_goals rfl
  · have hu := hu_of hr
    refine ⟨_, (pss_cons (ps_set (i := 2) sc_law_numbers.nd rfl (Or.inr rfl) (pe_ix (ki_list (K := K) rfl) (pe_lst (pa_cons pe_int (pa_cons pe_int (pa_cons pe_int (pa_cons (pe_op op_pow pe_int pe_int) (pa_nil)))))) (pe_call (ok_law_take (P := P) T) (hr.mono (by decide)) rfl T.m_law_take T.k_law_take T.b_law_take .nil pass0 (pa_cons (pv 0) (pa_cons pe_int (pa_nil)))) (fun _ _ => rfl)))
      (pss_one (ps_ret (pe_lc (own := [("k", 3)]) (g := gName 3) (tt := tYes) rfl sc_law_numbers.nd (pi_range1 rfl T.z_range (pa_cons (pv 1) (pa_nil))) (blkOk_by (own := [("k", 3)]) (N := ["pool", "members", "size", "k"]) (sc := defScope s_law_numbers) (by decide +kernel)) (fun _ _ _ _ _ => (pg_name (i := 3) sc_law_numbers.nd rfl (Or.inl rfl))) (fun _ _ _ _ _ => pts_nil) (fun _ _ _ _ _ => (pe_call (ok_law_take (P := P) T) (hr.mono (by decide)) rfl T.m_law_take T.k_law_take T.b_law_take .nil pass0 (pa_cons (pv 0) (pa_cons (pv 2) (pa_nil))))))))), ?_⟩
    rcases h with ⟨p, n, m, rfl, hp, hn, hm, h5, k⟩
    walk_at "rdn"
    intro sA hsA
    walk_at "rdn"
    obtain ⟨m1, h1, h2⟩ := at_ints [2, 4, 30, 10 ^ Int.toNat 29] (fun x => 0 < x ∧ x ≤ 10 ^ 29) (i := n % 4) (by decide +kernel) (by omega) (by show n % 4 < 4; omega)
    have nps : p ≠ sA := by walk_at "ne"
    refine q_ixL (by walk_at "sq") h1 ?_
    walk_at "rdn"
    intro D hD
    have nDp : D ≠ p := by walk_at "ne"
    have hDH : H D = none := by walk_at "fr"
    have hb : m1.natAbs < 2 ^ 8000 := Nat.lt_of_le_of_lt (show m1.natAbs ≤ 10 ^ 29 by omega) (by decide +kernel)
    refine lc_it walk_range (fun i H' => ∃ (z : Int) (ys : List Int), 0 ≤ z ∧ ys.length = i ∧ (∀ y ∈ ys, 0 ≤ y) ∧ H' p = some (.lst [.int z]) ∧ H' D = some (.lst (ys.map V.int)) ∧ Fr1 p H H') ?_ (fun _ _ _ _ => trivial) ?_ ?_
    · refine ⟨n / 4, [], by omega, rfl, by simp, by walk_at "lk", upd_same, fun b o hb2 e => by walk_at "lk"⟩
    · rintro i x H1 H' hi ⟨z, ys, hz, hy, hyn, f1, f2, f3⟩ ⟨rfl, rfl⟩
      refine ⟨wipe_set, ?_⟩
      walk_at "rd"
      have hD3 := f3
      refine ⟨ys.map V.int, by walk_at "lk", line_lt (by simp; omega), z / m1, ys ++ [z % m1], Int.ediv_nonneg hz (by omega), by simp [hy], ?_, by walk_at "lk", ?_, fun b o hb2 e => ?_⟩
      · intro y hy2
        rcases List.mem_append.mp hy2 with h | h
        · exact hyn y h
        · rw [List.mem_singleton.mp h]
          exact Int.emod_nonneg _ (by omega)
      · rw [upd_same, List.map_append]
        rfl
      · have := f3 b o hb2 e
        walk_at "lk"
    · rintro H' ⟨z, ys, hz, hy, hyn, f1, f2, f3⟩
      walk_at "rd"
      exact k D ys z H' f3 f1 hz hDH nDp f2 hy hyn
theorem ok_law_near (T : Tx K mg) : FnOk P w K mg base CX0 2 T.f_law_near T.d_law_near ["row", "pool"] (sp_law_near K) := by
  refine T.F_law_near.ok sc_law_near (fun vs H Q E h => ?_) (fun cdv A outer s H vs Q E hr h => ?_)
  · rcases h with ⟨a, p, ms, n, rfl, ha, hp, hn, h5, hap, k⟩
    all_goals rfl
  · have hu := hu_of hr
    refine ⟨_, (pss_cons (ps_set (i := 2) sc_law_near.nd rfl (Or.inl rfl) (pe_lst pa_nil))
      (pss_cons (ps_for PassesOwn.never rfl (kpi_list (K := K) rfl (pv 0)) (pg_name (i := 3) sc_law_near.nd rfl (Or.inl rfl))
      (pss_cons (ps_set (i := 4) sc_law_near.nd rfl (Or.inl rfl) (pe_ix (ki_list (K := K) rfl) (pe_lst (pa_cons pe_int (pa_cons pe_int (pa_cons (pe_un un_neg pe_int) (pa_cons pe_int (pa_cons pe_int (pa_nil))))))) (pe_call (ok_law_take (P := P) T) (hr.mono (by decide)) rfl T.m_law_take T.k_law_take T.b_law_take .nil pass0 (pa_cons (pv 1) (pa_cons pe_int (pa_nil)))) (fun _ _ => rfl)))
      (pss_one (ps_expr (pe_bm PySem.F.plainAttrs_list PySem.F.slot_list_append PySem.F.type_list_append mt_append (pv 2) (pa_cons (pe_callB (id := "max") (call_maxA rfl) (by rfl) T.z_max (by decide +kernel) (pa_cons pe_int (pa_cons (pe_op op_add (pv 3) (pv 4)) (pa_nil)))) (pa_nil)))))))
      (pss_one (ps_ret (pv 2))))), ?_⟩
    rcases h with ⟨a, p, ms, n, rfl, ha, hp, hn, h5, hap, k⟩
    walk_at "rdn"
    intro l hl
    walk_at "rdn"
    have nlp : l ≠ p := by walk_at "ne"
    have nal : a ≠ l := by walk_at "ne"
    refine for_list (K := K) (a := a) (xs := ms.map V.int) (fun i σ H' => ∃ (z : Int) (ys : List Int) (u1 u2 : Option V), σ = [some (.ref a), some (.ref p), some (.ref l), u1, u2] ∧ 0 ≤ z ∧ ys.length = i ∧ (∀ y ∈ ys, 0 ≤ y) ∧ H' p = some (.lst [.int z]) ∧ H' l = some (.lst (ys.map V.int)) ∧ H' a = some (.lst (ms.map V.int)) ∧ Fr1 p H H') ⟨n, [], none, none, rfl, hn, rfl, by simp, by walk_at "lk", upd_same, by walk_at "lk", fun b o hb e => by walk_at "lk"⟩ (fun i σ H' _ h => by obtain ⟨_, _, _, _, _, _, _, _, _, _, h, _⟩ := h; exact SqL.of h) ?_ ?_
    · rintro i x σ H1 hx ⟨z, ys, u1, u2, rfl, hz, hy, hyn, f1, f2, f3, f4⟩
      obtain ⟨v, _, rfl⟩ := List.mem_map.mp (List.mem_of_getElem? hx)
      walk_at "rdn"
      intro sA hsA
      have nps : p ≠ sA := by walk_at "ne"
      have nls : l ≠ sA := by walk_at "ne"
      have nas : a ≠ sA := by walk_at "ne"
      walk_at "rdn"
      obtain ⟨m1, h1, h2⟩ := at_ints [0, 1, -1, 0, 7] (fun x => True) (i := z % 5) (fun _ _ => trivial) (by omega) (by show z % 5 < 5; omega)
      refine q_ixL (by walk_at "sq") h1 ?_
      walk_at "rdn"
      have hi := (List.getElem?_eq_some_iff.mp hx).1
      simp only [List.length_map] at hi
      refine q_append (by walk_at "lk") (line_lt (by simp; omega)) ?_
      walk_at "rdn"
      refine ⟨z / 5, ys ++ [max 0 (v + m1)], _, _, rfl, by omega, by simp [hy], ?_, by walk_at "lk", ?_, by walk_at "lk", fun b o hb2 e => ?_⟩
      · intro y hy2
        rcases List.mem_append.mp hy2 with h | h
        · exact hyn y h
        · rw [List.mem_singleton.mp h]
          omega
      · rw [upd_same, List.map_append]
        rfl
      · have := f4 b o hb2 e
        walk_at "lk"
    · rintro σ H' ⟨z, ys, u1, u2, rfl, hz, hy, hyn, f1, f2, f3, f4⟩
      walk_at "rdn"
      exact k l ys z H' f4 f1 hz hl nlp f2 (by simpa using hy) hyn
theorem ok_law_first (T : Tx K mg) : FnOk P w K mg base CX0 8 T.f_law_first T.d_law_first ["deed", "counts", "things"] (sp_law_first K T.C_Counts) := by
  refine T.F_law_first.ok sc_law_first (fun vs H Q E h => ?_) (fun cdv A outer s H vs Q E hr h => ?_)
  · rcases h with ⟨d, a, p, l, dx, t, ms, us, z, x, rfl, hp, ht, hl, hr, h5, hx, k⟩
    all_goals rfl
  · have hu := hu_of hr
    refine ⟨_, (pss_cons (ps_tryX rfl rfl sc_law_first.nd takes0 (fun W pn xe tk po => (pss_one (ps_if (pt_cmpR op_eq (pv 0) pe_int (nomark _))
      (pss_one (ps_expr (pe_methE (pv 1) T.c_Counts T.mt_Counts_raised (ok_Counts_raised (P := P) T) (hr.mono (by decide)) T.b_Counts_raised .nil (fun σ => passX tk σ) (pa_cons (pe_ix (ki_list (K := K) rfl) (pv 2) pe_int (fun _ _ => rfl)) (pa_cons (pe_ix (ki_list (K := K) rfl) (pv 2) pe_int (fun _ _ => rfl)) (pa_nil)))))) (pss_one (ps_if (pt_cmpR op_eq (pv 0) pe_int (nomark _))
      (pss_one (ps_expr (pe_methE (pv 1) T.c_Counts T.mt_Counts_changes_from (ok_Counts_changes_from (P := P) T) (hr.mono (by decide)) T.b_Counts_changes_from .nil (fun σ => passX tk σ) (pa_cons (pe_ix (ki_list (K := K) rfl) (pv 2) pe_int (fun _ _ => rfl)) (pa_nil))))) (pss_one (ps_expr (pe_methE (pv 1) T.c_Counts T.mt_Counts_changed (ok_Counts_changed (P := P) T) (hr.mono (by decide)) T.b_Counts_changed .nil (fun σ => passX tk σ) (pa_cons (pe_ix (ki_list (K := K) rfl) (pv 2) pe_int (fun _ _ => rfl)) (pa_nil))))))))))
      (.named (i := 3) (TK.four (show Names _ "NoCounts" (.ref T.C_NoCounts) from ⟨rfl, by decide, .inl T.g_NoCounts⟩) (show Names _ "NoMember" (.ref T.C_NoMember) from ⟨rfl, by decide, .inl T.g_NoMember⟩) (show Names _ "NoNumber" (.ref T.C_NoNumber) from ⟨rfl, by decide, .inl T.g_NoNumber⟩) (show Names _ "Unlike" (.ref T.C_Unlike) from ⟨rfl, by decide, .inl T.g_Unlike⟩)) rfl rfl (fun a oe cls d pn hz hf => (pss_cons (ps_if (pt_val (pe_callB (id := "isinstance") (kx_isi (K := K) rfl) (by rfl) T.z_isinstance (by decide +kernel) (pa_cons (pe_ix (ki_list (K := K) rfl) (pv 2) pe_int (fun _ _ => rfl)) (pa_cons (pe_bltn (v := .ty "list") (u := .type "list") (by rfl) T.z_list (by decide +kernel) rfl) (pa_nil)))))
      (pss_one (ps_expr (kbm (K := K) rfl (pe_bm PySem.F.plainAttrs_list PySem.F.slot_list_append PySem.F.type_list_append mt_append (pe_ix (ki_list (K := K) rfl) (pv 2) pe_int (fun _ _ => rfl)) (pa_cons pe_str (pa_nil)))))) pss_nil)
      (pss_cons (ps_set (i := 4) sc_law_first.nd rfl (Or.inl rfl) (pe_lst (pa_cons (pe_callB (id := "isinstance") (call_isX hz hf rfl) (by rfl) T.z_isinstance (by decide +kernel) (pa_cons (pv 3) (pa_cons (pe_glob (v := .ref T.C_NoCounts) rfl T.g_NoCounts rfl) (pa_nil)))) (pa_cons (pe_callB (id := "isinstance") (call_isX hz hf rfl) (by rfl) T.z_isinstance (by decide +kernel) (pa_cons (pv 3) (pa_cons (pe_glob (v := .ref T.C_NoMember) rfl T.g_NoMember rfl) (pa_nil)))) (pa_cons (pe_callB (id := "isinstance") (call_isX hz hf rfl) (by rfl) T.z_isinstance (by decide +kernel) (pa_cons (pv 3) (pa_cons (pe_glob (v := .ref T.C_NoNumber) rfl T.g_NoNumber rfl) (pa_nil)))) (pa_cons (pe_callB (id := "isinstance") (call_isX hz hf rfl) (by rfl) T.z_isinstance (by decide +kernel) (pa_cons (pv 3) (pa_cons (pe_glob (v := .ref T.C_Unlike) rfl T.g_Unlike rfl) (pa_nil)))) (pa_nil)))))))
      (pss_one (ps_ret (pe_tup (pa_cons (pe_ifExp (pt_val (pe_callB (id := "isinstance") (call_isX hz hf rfl) (by rfl) T.z_isinstance (by decide +kernel) (pa_cons (pv 3) (pa_cons (pe_glob (v := .ref T.C_HallError) rfl T.g_HallError rfl) (pa_nil))))) (pv 4) (pe_lst pa_nil)) (pa_cons (pe_xg rfl hz hf (pv 3)) (pa_nil))))))))) .nil))
      (pss_one (ps_ret (pe_tup (pa_cons (pe_lst pa_nil) (pa_cons pe_non (pa_nil))))))), ?_⟩
    rcases h with ⟨d, a, p, l, dx, t, ms, us, z, x, rfl, hp, ht, hl, hr, h5, hx, k⟩
    rcases hr with ⟨rfl, rfl, rfl, ⟨y, rfl⟩, h6, h7⟩ | ⟨rfl, rfl, ⟨j, rfl, h6, h7⟩, rfl, h8⟩ | ⟨rfl, rfl, rfl, rfl, ⟨ty, h6, h9⟩, h7⟩ | ⟨rfl, rfl, rfl, rfl, q, ns, rfl, ⟨dy, u, h6, h7⟩, h8, h9⟩ | ⟨rfl, rfl, rfl, rfl, q, xs, os, rfl, h7, h6, h8, h9⟩ | ⟨rfl, rfl, rfl, rfl, ty, h7, h6, h8, hNL⟩
    · rcases h7 with ⟨q, xs, rfl, h7, h8⟩ | ⟨ty, h7, h8, hNL⟩
      · have nql : q ≠ l := fun e => hx (by rw [e])
        walk_at "rdn"
        intro d hd
        walk_at "rdn"
        intro a ha
        walk_at "rdn"
        intro w2 hw2
        walk_at "rdn"
        intro r hr
        walk_at "rdn"
        refine k r w2 _ (fun b o eb nb => ?_) (fun q2 xs2 ex eq => ?_) upd_same (show _ = some (HO.lst [V.bl false, V.bl true, V.bl false, V.bl false]) from by walk_at "lk")
        · have nbq : b ≠ q := fun e => by
            rw [e] at eb
            rw [h7] at eb
            exact nb xs (Option.some.inj eb).symm (by rw [e])
          walk_at "lk"
        · obtain rfl : q = q2 := V.ref.inj ex
          rw [h7] at eq
          obtain rfl : xs = xs2 := HO.lst.inj (Option.some.inj eq)
          exact ⟨xs ++ [.str (Str.ofString "more")], by walk_at "lk", by simp⟩
      · walk_at "rdn"
        intro d hd
        have s1 : Same H (upd H d (.xd [("found", z)])) := Same.new hd
        have h70 := h7
        have h7 := h7.mono s1
        walk_at "rdn"
        intro a ha
        walk_at "rdn"
        intro w2 hw2
        walk_at "rdn"
        intro r hr
        walk_at "rdn"
        refine k r w2 _ (FrX.of (by walk_at "sm")) (fun q2 xs2 ex eq => ?_) upd_same (show _ = some (HO.lst [V.bl false, V.bl true, V.bl false, V.bl false]) from by walk_at "lk")
        exact (hNL.no ex eq).elim
    · walk_at "rdn"
      intro d hd
      walk_at "rdn"
      intro a ha
      walk_at "rdn"
      intro w2 hw2
      walk_at "rdn"
      intro r hr
      walk_at "rdn"
      exact k r w2 _ (FrX.of (by walk_at "sm")) (fun q2 xs2 ex eq => by cases ex) upd_same (show _ = some (HO.lst [V.bl false, V.bl false, V.bl true, V.bl false]) from by walk_at "lk")
    · walk_at "rdn"
      intro d hd
      rcases h7 with ⟨q, xs, rfl, h7, h8⟩ | ⟨ty2, h7, h8, hNL⟩
      · have nql : q ≠ l := fun e => hx (by rw [e])
        walk_at "rdn"
        intro a ha
        walk_at "rdn"
        intro w2 hw2
        walk_at "rdn"
        intro r hr
        walk_at "rdn"
        refine k r w2 _ (fun b o eb nb => ?_) (fun q2 xs2 ex eq => ?_) upd_same (show _ = some (HO.lst [V.bl true, V.bl false, V.bl false, V.bl false]) from by walk_at "lk")
        · have nbq : b ≠ q := fun e => by
            rw [e] at eb
            rw [h7] at eb
            exact nb xs (Option.some.inj eb).symm (by rw [e])
          walk_at "lk"
        · obtain rfl : q = q2 := V.ref.inj ex
          rw [h7] at eq
          obtain rfl : xs = xs2 := HO.lst.inj (Option.some.inj eq)
          exact ⟨xs ++ [.str (Str.ofString "more")], by walk_at "lk", by simp⟩
      · have s1 : Same H (upd H d (.xd [("found", z)])) := Same.new hd
        have h70 := h7
        have h7 := h7.mono s1
        walk_at "rdn"
        intro a ha
        walk_at "rdn"
        intro w2 hw2
        walk_at "rdn"
        intro r hr
        walk_at "rdn"
        refine k r w2 _ (FrX.of (by walk_at "sm")) (fun q2 xs2 ex eq => ?_) upd_same (show _ = some (HO.lst [V.bl true, V.bl false, V.bl false, V.bl false]) from by walk_at "lk")
        exact (hNL.no ex eq).elim
    · walk_at "rdn"
      intro d hd
      walk_at "rdn"
      intro a ha
      walk_at "rdn"
      intro w2 hw2
      walk_at "rdn"
      intro r hr
      walk_at "rdn"
      exact k r w2 _ (FrX.of (by walk_at "sm")) (fun q2 xs2 ex eq => by cases ex; rw [h6] at eq; cases eq) upd_same (show _ = some (HO.lst [V.bl false, V.bl false, V.bl false, V.bl true]) from by walk_at "lk")
    · have hL := h7
      rcases h7 with h7 | h7
      · have h70 := h7
        have nql : q ≠ l := fun e => hx (by rw [e])
        walk_at "rdn"
        intro d H1 s1 hd
        have h7 := same_at s1 h7
        have nqd : q ≠ d := fun e => by rw [e, hd] at h7; cases h7
        walk_at "rdn"
        intro a ha
        walk_at "rdn"
        intro w2 hw2
        walk_at "rdn"
        intro r hr
        walk_at "rdn"
        refine k r w2 _ (fun b o eb nb => ?_) (fun q2 xs2 ex eq => ?_) upd_same (show _ = some (HO.lst [V.bl true, V.bl false, V.bl false, V.bl false]) from by walk_at "lk")
        · have nbq : b ≠ q := fun e => by
            rw [e] at eb
            rw [h70] at eb
            exact nb xs (Option.some.inj eb).symm (by rw [e])
          have eb := s1 _ _ eb
          walk_at "lk"
        · obtain rfl : q = q2 := V.ref.inj ex
          rw [h70] at eq
          obtain rfl : xs = xs2 := HO.lst.inj (Option.some.inj eq)
          exact ⟨xs ++ [.str (Str.ofString "more")], by walk_at "lk", by simp⟩
      · walk_at "rdn"
        intro d H1 s1 hd
        have h70 := h7
        have h7 := same_at s1 h7
        walk_at "rdn"
        intro a ha
        walk_at "rdn"
        intro w2 hw2
        walk_at "rdn"
        intro r hr
        walk_at "rdn"
        exact k r w2 _ (FrX.of (by walk_at "sm")) (fun q2 xs2 ex eq => by cases ex; rw [h70] at eq; cases eq) upd_same (show _ = some (HO.lst [V.bl true, V.bl false, V.bl false, V.bl false]) from by walk_at "lk")
    · walk_at "rdn"
      intro d H1 s1 hd
      have h70 := h7
      have h7 := h7.mono s1
      walk_at "rdn"
      intro a ha
      walk_at "rdn"
      intro w2 hw2
      walk_at "rdn"
      intro r hr
      walk_at "rdn"
      refine k r w2 _ (FrX.of (by walk_at "sm")) (fun q2 xs2 ex eq => ?_) upd_same (show _ = some (HO.lst [V.bl true, V.bl false, V.bl false, V.bl false]) from by walk_at "lk")
      exact (hNL.no ex eq).elim
theorem ok_law_refused (T : Tx K mg) : FnOk P w K mg base CX0 9 T.f_law_refused T.d_law_refused ["deed", "counts", "things", "at", "thing"] (sp_law_refused K T.C_Counts) := by
  refine T.F_law_refused.ok sc_law_refused (fun vs H Q E h => ?_) (fun cdv A outer s H vs Q E hr h => ?_)
  · rcases h with ⟨d, a, p, l, dx, t, ms, us, z, x, rfl, hp, ht, hl, hr, h5, hx, hz, k⟩
    all_goals rfl
  · have hu := hu_of hr
    refine ⟨_, (pss_one (ps_ret (pe_cmpR (op_eqX rfl (room128 hr)) (pe_call (ok_law_first (P := P) T) (hr.mono (by decide)) rfl T.m_law_first T.k_law_first T.b_law_first .nil pass0 (pa_cons (pv 0) (pa_cons (pv 1) (pa_cons (pv 2) (pa_nil))))) (pe_tup (pa_cons (pe_lc (own := [("k", 5)]) (g := gName 5) (tt := tYes) rfl sc_law_refused.nd (pi_range1 rfl T.z_range (pa_cons pe_int (pa_nil))) (blkOk_by (own := [("k", 5)]) (N := ["deed", "counts", "things", "at", "thing", "k"]) (sc := defScope s_law_refused) (by decide +kernel)) (fun _ _ _ _ _ => (pg_name (i := 5) sc_law_refused.nd rfl (Or.inl rfl))) (fun _ _ _ _ _ => pts_nil) (fun _ _ _ _ _ => (pe_cmpR op_eq (pv 5) (pv 3) (nomark _)))) (pa_cons (pv 4) (pa_nil)))) (nomark _)))), ?_⟩
    rcases h with ⟨d, a, p, l, dx, t, ms, us, z, x, rfl, hp, ht, hl, hr, h5, hx, hz, k⟩
    walk_at "rdn"
    intro r w2 H1 f1 f2 f3 f4
    walk_at "rdn"
    intro D hD
    refine lc_rangeB (fun i => decide ((i : Int) = a)) (by decide) hD (fun i hi H2 R s2 hR => ?_) (fun H2 s2 e => ?_)
    · walk_at "rdn"
      exact R_of (hR _ (Same.refl _)) (by rw [Int.zero_add])
    · walk_at "rdn"
      intro tp htp
      have e3 := same_at s2 f3
      have e4 := same_at s2 f4
      refine q_eqXT (by walk_at "sq") (by walk_at "sq") (c := true) (e1s_2 (b1 := true) (b2 := true) ?_ (e1_self hz)) ?_
      · have y1 : SqL K (upd H2 tp (.tup [V.ref D, z])) w2 ([decide (a = 0), decide (a = 1), decide (a = 2), decide (a = 3)].map V.bl) := by walk_at "sq"
        have y2 : SqL K (upd H2 tp (.tup [V.ref D, z])) D ([decide (a = 0), decide (a = 1), decide (a = 2), decide (a = 3)].map V.bl) := by
          have z2 : H2 D = some (.lst ([decide (a = 0), decide (a = 1), decide (a = 2), decide (a = 3)].map V.bl)) := by
            rw [e]
            show some (HO.lst [V.bl (decide ((0:Int) = a)), V.bl (decide ((1:Int) = a)), V.bl (decide ((2:Int) = a)), V.bl (decide ((3:Int) = a))]) = _
            simp only [eq_comm (b := a), List.map_cons, List.map_nil]
          walk_at "sq"
        have z1 : ∀ bs : List Bool, DpAll K (upd H2 tp (.tup [V.ref D, z])) (bs.map V.bl) (bs.map PyData.bool) := by
          intro bs
          induction bs with
          | nil => exact .nil
          | cons b bs ih => exact .cons (.bl b) ih
        have w1 := E1.dat (K := K) (.lst y1 (z1 _)) (.lst y2 (z1 _)) (by rfl) (by rfl)
        exact R_of (R := fun b _ => E1 K _ _ _ b) (H := H2) w1 (by simp [PyData.eqv, PyData.eqvAll])
      · refine k _ (fun b o eb nb => ?_) (fun q xs ex eq => ?_)
        · have := s2 _ _ (f1 b o eb nb)
          walk_at "lk"
        · obtain ⟨ys, y1, y2⟩ := f2 q xs ex eq
          have := s2 _ _ y1
          exact ⟨ys, by walk_at "lk", y2⟩
theorem ok_law_raised (T : Tx K mg) : FnOk P w K mg base CX0 10 T.f_law_raised T.d_law_raised ["counts", "row", "pool"] (sp_law_raised K T.C_Counts) := by
  refine T.F_law_raised.ok sc_law_raised (fun vs H Q E h => ?_) (fun cdv A outer s H vs Q E hr h => ?_)
  · rcases h with ⟨p, dx, t, a, q, ms, n, rfl, hp, ht, ha, hq, hn, haq, h2, h5, hm, k⟩
    all_goals rfl
  · have hu := hu_of hr
    refine ⟨_, (pss_cons (ps_set (i := 3) sc_law_raised.nd rfl (Or.inl rfl) (pe_call (ok_law_take (P := P) T) (hr.mono (by decide)) rfl T.m_law_take T.k_law_take T.b_law_take .nil pass0 (pa_cons (pv 2) (pa_cons (pe_callB (id := "len") (kx_len (K := K) rfl) (by rfl) T.z_len (by decide +kernel) (pa_cons (pv 1) (pa_nil))) (pa_nil)))))
      (pss_cons (ps_set (i := 4) sc_law_raised.nd rfl (Or.inl rfl) (pe_call (ok_law_take (P := P) T) (hr.mono (by decide)) rfl T.m_law_take T.k_law_take T.b_law_take .nil pass0 (pa_cons (pv 2) (pa_cons (pe_ix (ki_list (K := K) rfl) (pe_lst (pa_cons pe_int (pa_cons pe_int (pa_cons (pe_op op_pow pe_int pe_int) (pa_nil))))) (pe_call (ok_law_take (P := P) T) (hr.mono (by decide)) rfl T.m_law_take T.k_law_take T.b_law_take .nil pass0 (pa_cons (pv 2) (pa_cons pe_int (pa_nil)))) (fun _ _ => rfl)) (pa_nil)))))
      (pss_cons (ps_set (i := 5) sc_law_raised.nd rfl (Or.inl rfl) (pe_lst (pa_cons (pe_tup (pa_cons (pe_meth (pv 0) T.c_Counts T.mt_Counts_raised (ok_Counts_raised (P := P) T) (hr.mono (by decide)) T.b_Counts_raised_2 T.v_Counts_raised_2 passL (pa_cons (pv 3) (pa_nil))) (pa_cons pe_int (pa_nil)))) (pa_cons (pe_tup (pa_cons (pe_meth (pv 0) T.c_Counts T.mt_Counts_raised (ok_Counts_raised (P := P) T) (hr.mono (by decide)) T.b_Counts_raised .nil passL (pa_cons (pv 3) (pa_cons (pv 4) (pa_nil)))) (pa_cons (pv 4) (pa_nil)))) (pa_nil)))))
      (pss_cons (ps_for PassesOwn.never rfl (kpi_list (K := K) rfl (pe_op op_cat (pv 5) (pe_lst (pa_cons (pe_tup (pa_cons (pe_methN (pv 0) T.c_Counts T.mt_Counts_raised (ok_Counts_raised (P := P) T) (hr.mono (by decide)) T.kb_Counts_raised_2_by passL (pa_cons (pv 3) (pa_nil)) (pk_cons (pv 4) pk_nil)) (pa_cons (pv 4) (pa_nil)))) (pa_nil))))) (kg_tup (K := K) (n := 2) rfl rfl (pgs_cons (pg_name (i := 6) sc_law_raised.nd rfl (Or.inl rfl)) (pgs_cons (pg_name (i := 7) sc_law_raised.nd rfl (Or.inl rfl)) pgs_nil)))
      (pss_cons (ps_set (i := 8) sc_law_raised.nd rfl (Or.inl rfl) (pe_op op_cat (pe_op op_cat (pe_slice (ks_list (K := K) rfl) (pv 1) po_none (po_some (pv 3))) (pe_lst (pa_cons (pe_op op_add (pe_ix (ki_list (K := K) rfl) (pv 1) (pv 3) (fun _ _ => rfl)) (pv 7)) (pa_nil)))) (pe_slice (ks_list (K := K) rfl) (pv 1) (po_some (pe_op op_add (pv 3) pe_int)) po_none)))
      (pss_one (ps_if (PW.pt (pw_or (pt_not (pt_val (pe_callB (id := "isinstance") (kx_isi (K := K) rfl) (by rfl) T.z_isinstance (by decide +kernel) (pa_cons (pv 6) (pa_cons (pe_glob (v := .ref T.C_Counts) rfl T.g_Counts rfl) (pa_nil)))))) (pw_or1 (pt_cmpR (ko_neD (K := K) rfl hr.units) (pe_meth0 (pv 6) T.c_Counts T.mt_Counts_told (ok_Counts_told (P := P) T) (hr.mono (by decide)) T.b_Counts_told .nil pass0) (pe_callTy (T := "tuple") (kx_tuple (K := K) rfl) (by rfl) T.z_tuple (by decide +kernel) (pa_cons (pv 8) (pa_nil))) (nomark _)))))
      (pss_one (ps_ret pe_bl)) pss_nil))))
      (pss_cons (ps_for PassesOwn.never rfl (kpi_list (K := K) rfl (pe_lst (pa_cons (pe_callB (id := "len") (kx_len (K := K) rfl) (by rfl) T.z_len (by decide +kernel) (pa_cons (pv 1) (pa_nil))) (pa_cons (pe_un un_neg pe_int) (pa_cons pe_non (pa_cons pe_bl (pa_cons pe_str (pa_cons (pe_lst (pa_cons pe_int (pa_nil))) (pa_cons (pv 0) (pa_nil)))))))))) (pg_name (i := 9) sc_law_raised.nd rfl (Or.inl rfl))
      (pss_one (ps_for PassesOwn.never rfl (kpi_list (K := K) rfl (pe_lst (pa_cons pe_int (pa_cons (pe_un un_neg pe_int) (pa_cons pe_non (pa_nil)))))) (pg_name (i := 7) sc_law_raised.nd rfl (Or.inl rfl))
      (pss_one (ps_if (pt_not (pt_val (pe_call (ok_law_refused (P := P) T) (hr.mono (by decide)) rfl T.m_law_refused T.k_law_refused T.b_law_refused .nil pass0 (pa_cons pe_int (pa_cons (pv 0) (pa_cons (pe_lst (pa_cons (pv 9) (pa_cons (pv 7) (pa_nil)))) (pa_cons pe_int (pa_cons (pv 9) (pa_nil)))))))))
      (pss_one (ps_ret pe_bl)) pss_nil)))))
      (pss_cons (ps_for PassesOwn.never rfl (kpi_list (K := K) rfl (pe_lst (pa_cons (pe_un un_neg pe_int) (pa_cons pe_non (pa_cons pe_bl (pa_cons pe_str (pa_cons (pe_lst (pa_cons pe_int (pa_nil))) (pa_cons (pe_un un_neg (pe_op op_pow pe_int pe_int)) (pa_cons (pv 0) (pa_nil)))))))))) (pg_name (i := 9) sc_law_raised.nd rfl (Or.inl rfl))
      (pss_one (ps_if (pt_not (pt_val (pe_call (ok_law_refused (P := P) T) (hr.mono (by decide)) rfl T.m_law_refused T.k_law_refused T.b_law_refused .nil pass0 (pa_cons pe_int (pa_cons (pv 0) (pa_cons (pe_lst (pa_cons (pv 3) (pa_cons (pv 9) (pa_nil)))) (pa_cons pe_int (pa_cons (pv 9) (pa_nil)))))))))
      (pss_one (ps_ret pe_bl)) pss_nil)))
      (pss_cons (ps_set (i := 10) sc_law_raised.nd rfl (Or.inl rfl) (pe_meth (pv 0) T.c_Counts T.mt_Counts_raised (ok_Counts_raised (P := P) T) (hr.mono (by decide)) T.b_Counts_raised .nil passL (pa_cons (pv 3) (pa_cons (pe_op op_sub (pe_op op_pow pe_int pe_int) pe_int) (pa_nil)))))
      (pss_cons (ps_if (PW.pt (pw_or (pt_cmpR (op_neO rfl T.ne_Counts T.hm_Counts T.mt_Counts_eq.at_ T.mt_Counts_eq.fn (ok_Counts_eq (P := P) T) (hr.mono (by decide)) T.b_Counts_eq pass0) (pe_meth (pv 0) T.c_Counts T.mt_Counts_changed (ok_Counts_changed (P := P) T) (hr.mono (by decide)) T.b_Counts_changed .nil passL (pa_cons (pe_meth (pv 10) T.c_Counts T.mt_Counts_changes_from (ok_Counts_changes_from (P := P) T) (hr.mono (by decide)) T.b_Counts_changes_from .nil passL (pa_cons (pv 0) (pa_nil))) (pa_nil))) (pv 10) (nomark _)) (pw_or1 (pt_cmpR (op_neO rfl T.ne_Counts T.hm_Counts T.mt_Counts_eq.at_ T.mt_Counts_eq.fn (ok_Counts_eq (P := P) T) (hr.mono (by decide)) T.b_Counts_eq pass0) (pe_meth (pv 10) T.c_Counts T.mt_Counts_changed (ok_Counts_changed (P := P) T) (hr.mono (by decide)) T.b_Counts_changed .nil passL (pa_cons (pe_meth (pv 0) T.c_Counts T.mt_Counts_changes_from (ok_Counts_changes_from (P := P) T) (hr.mono (by decide)) T.b_Counts_changes_from .nil passL (pa_cons (pv 10) (pa_nil))) (pa_nil))) (pv 0) (nomark _)))))
      (pss_one (ps_ret pe_bl)) pss_nil)
      (pss_one (ps_ret (pe_cmpR (op_eqO rfl T.mt_Counts_eq.at_ T.mt_Counts_eq.fn (ok_Counts_eq (P := P) T) (hr.mono (by decide)) T.b_Counts_eq pass0) (pe_meth (pv 0) T.c_Counts T.mt_Counts_raised (ok_Counts_raised (P := P) T) (hr.mono (by decide)) T.b_Counts_raised .nil passL (pa_cons (pv 3) (pa_cons pe_int (pa_nil)))) (pv 0) (nomark _)))))))))))), ?_⟩
    rcases h with ⟨p, dx, t, a, q, ms, n, rfl, hp, ht, ha, hq, hn, haq, h2, h5, hm, k⟩
    have npq : p ≠ q := fun e => by rw [e, hq] at hp; cases hp
    have ntq : t ≠ q := fun e => by rw [e, hq] at ht; cases ht
    walk_at "rdn"
    intro sA hsA
    walk_at "rdn"
    obtain ⟨j, hj⟩ := Int.eq_ofNat_of_zero_le (show 0 ≤ n % ↑(List.map V.int ms).length from Int.emod_nonneg _ (by rw [List.length_map]; omega))
    have hjl : j < ms.length := by
      have := Int.emod_lt_of_pos n (show (0 : Int) < ↑(List.map V.int ms).length by rw [List.length_map]; omega)
      rw [hj, List.length_map] at this
      omega
    rw [hj]
    have hz : 0 ≤ n / ↑(List.map V.int ms).length := Int.ediv_nonneg hn (by omega)
    generalize n / ↑(List.map V.int ms).length = z at hz ⊢
    obtain ⟨m1, h1, h2⟩ := at_ints [3, 1000, 10 ^ Int.toNat 29] (fun x => 0 < x ∧ x ≤ 10 ^ 29) (i := z % 3) (by decide +kernel) (by omega) (by show z % 3 < 3; omega)
    have nqs : q ≠ sA := by walk_at "ne"
    refine q_ixL (by walk_at "sq") h1 ?_
    have hb : m1.natAbs < 2 ^ 8000 := Nat.lt_of_le_of_lt (show m1.natAbs ≤ 10 ^ 29 by omega) (by decide +kernel)
    (repeat walk_at "rd0")
    refine r_law_take rfl (hp := upd_same) (hm := by omega) (hb := hb) ?_
    have hs0 : 0 ≤ z / 3 % m1 := Int.emod_nonneg _ (by omega)
    have hz2 : 0 ≤ z / 3 / m1 := Int.ediv_nonneg (by omega) (by omega)
    generalize z / 3 % m1 = st at hs0 ⊢
    generalize z / 3 / m1 = z2 at hz2 ⊢
    have F0 : Fr1 q H (upd (upd (upd (upd H q (.lst [.int z])) sA (.lst [.int 3, .int 1000, .int (10 ^ Int.toNat 29)])) q (.lst [.int (z / 3)])) q (.lst [.int z2])) := fun b o nb e => by walk_at "lk"
    have Fq : upd (upd (upd (upd H q (.lst [.int z])) sA (.lst [.int 3, .int 1000, .int (10 ^ Int.toNat 29)])) q (.lst [.int (z / 3)])) q (.lst [.int z2]) q = some (.lst [.int z2]) := upd_same
    generalize upd (upd (upd (upd H q (.lst [.int z])) sA (.lst [.int 3, .int 1000, .int (10 ^ Int.toNat 29)])) q (.lst [.int (z / 3)])) q (.lst [.int z2]) = H0 at F0 Fq ⊢
    have fp := F0 _ _ npq hp
    have ft := F0 _ _ ntq ht
    have fa := F0 _ _ haq ha
    clear nqs hsA hb h1 h2 hz
    walk_at "rdn"
    rw [Int.toNat_natCast]
    intro r1 dz1 v1 H1 s1 g1 g2
    walk_at "rdn"
    intro p1 hp1
    walk_at "rdn"
    rw [Int.toNat_natCast]
    intro r2 dz2 v2 H2 s2 g3 g4
    walk_at "rdn"
    intro p2 hp2
    walk_at "rdn"
    intro L1 hL1
    walk_at "rdn"
    rw [Int.toNat_natCast]
    intro r3 dz3 v3 H3 s3 g5 g6
    walk_at "rdn"
    intro p3 hp3
    walk_at "rdn"
    intro L2 hL2
    walk_at "rdn"
    intro L3 hL3
    walk_at "rdn"
    have S3 : Same H0 (upd (upd (upd H3 p3 (.tup [.ref r3, .int st])) L2 (.lst [.ref p3])) L3 (.lst ([.ref p1, .ref p2] ++ [.ref p3]))) := (((((((s1.trans (Same.new hp1)).trans s2).trans (Same.new hp2)).trans (Same.new hL1)).trans s3).trans (Same.new hp3)).trans (Same.new hL2)).trans (Same.new hL3)
    have y1 : upd (upd (upd H3 p3 (.tup [.ref r3, .int st])) L2 (.lst [.ref p3])) L3 (.lst ([.ref p1, .ref p2] ++ [.ref p3])) L3 = some (.lst [.ref p1, .ref p2, .ref p3]) := upd_same
    have hT : ∀ x ∈ [V.ref p1, V.ref p2, V.ref p3], ∃ pp r dz v m, x = .ref pp ∧ upd (upd (upd H3 p3 (.tup [.ref r3, .int st])) L2 (.lst [.ref p3])) L3 (.lst ([.ref p1, .ref p2] ++ [.ref p3])) pp = some (.tup [.ref r, .int m]) ∧
        upd (upd (upd H3 p3 (.tup [.ref r3, .int st])) L2 (.lst [.ref p3])) L3 (.lst ([.ref p1, .ref p2] ++ [.ref p3])) r = some (.ins T.C_Counts dz [("_numbers", .ref v)]) ∧ upd (upd (upd H3 p3 (.tup [.ref r3, .int st])) L2 (.lst [.ref p3])) L3 (.lst ([.ref p1, .ref p2] ++ [.ref p3])) v = some (.tup ((ms.set j (ms.getD j 0 + m)).map V.int)) := by
      intro x hx
      simp only [List.mem_cons, List.not_mem_nil, or_false] at hx
      rcases hx with rfl | rfl | rfl
      · exact ⟨p1, r1, dz1, v1, 1, rfl, by walk_at "lk", by walk_at "lk", by walk_at "lk"⟩
      · exact ⟨p2, r2, dz2, v2, st, rfl, by walk_at "lk", by walk_at "lk", by walk_at "lk"⟩
      · exact ⟨p3, r3, dz3, v3, st, rfl, by walk_at "lk", by walk_at "lk", by walk_at "lk"⟩
    generalize upd (upd (upd H3 p3 (.tup [.ref r3, .int st])) L2 (.lst [.ref p3])) L3 (.lst ([.ref p1, .ref p2] ++ [.ref p3])) = HB at S3 y1 hT ⊢
    clear s1 s2 s3 g1 g2 g3 g4 g5 g6 hp1 hp2 hp3 hL1 hL2 hL3
    refine for_list (K := K) (a := L3) (xs := [.ref p1, .ref p2, .ref p3]) (fun i σ H' => (∃ u6 u7 u8 u9 u10 : Option V, σ = [some (.ref p), some (.ref a), some (.ref q), some (.int j), some (.int st), some (.ref L1), u6, u7, u8, u9, u10]) ∧ Same HB H') ⟨⟨none, none, none, none, none, rfl⟩, Same.refl _⟩ (fun i σ H' _ h => SqL.of (h.2 _ _ y1)) ?_ ?_
    · rintro i x σ H4 hx ⟨⟨u6, u7, u8, u9, u10, rfl⟩, s4⟩
      obtain ⟨pp, r, dz, v, m, rfl, z1, z3, z4⟩ := hT x (List.mem_of_getElem? hx)
      have z1 := same_at s4 z1
      have z3 := same_at s4 z3
      have z4 := same_at s4 z4
      have fa4 := same_at (S3.trans s4) fa
      walk_at "rdn"
      rw [cut_pre (by rw [List.length_map]; omega)]
      intro c1 hc1
      walk_at "rdn"
      intro c2 hc2
      walk_at "rdn"
      intro c3 hc3
      walk_at "rdn"
      rw [show (↑j + 1 : Int) = ((j + 1 : Nat) : Int) by omega, cut_suf (by rw [List.length_map]; omega)]
      intro c4 hc4
      walk_at "rdn"
      rw [set_cut hjl]
      intro c5 hc5
      walk_at "rdn"
      intro c6 hc6
      walk_at "rdn"
      exact ⟨⟨_, _, _, _, _, rfl⟩, (((((s4.trans (Same.new hc1)).trans (Same.new hc2)).trans (Same.new hc3)).trans (Same.new hc4)).trans (Same.new hc5)).trans (Same.new hc6)⟩
    · rintro σ H4 ⟨⟨u6, u7, u8, u9, u10, rfl⟩, s4⟩
      have S4 := S3.trans s4
      clear hT s4 S3 y1
      have fq4 := same_at S4 Fq
      have F4 : Fr1 q H H4 := fun b o nb e => S4 _ _ (F0 _ _ nb e)
      have gp := same_at S4 fp
      have gt := same_at S4 ft
      clear S4 F0 Fq fp ft fa
      walk_at "rdn"
      intro l9 hl9
      walk_at "rdn"
      intro L9 hL9
      walk_at "rdn"
      obtain ⟨TH, hTH⟩ : ∃ l : List V, l = [V.int ↑(List.map V.int ms).length, V.int (-1), V.non, V.bl true, V.str (Str.ofString "0"), V.ref l9, V.ref p] := ⟨_, rfl⟩
      rw [← hTH]
      have S5 : Same H4 (upd (upd H4 l9 (.lst [.int 0])) L9 (.lst TH)) := (Same.new hl9).trans (Same.new hL9)
      have k1 : upd (upd H4 l9 (.lst [.int 0])) L9 (.lst TH) l9 = some (.lst [.int 0]) := by walk_at "lk"
      have k3 : upd (upd H4 l9 (.lst [.int 0])) L9 (.lst TH) L9 = some (.lst TH) := upd_same
      have n2 : L9 ≠ l9 := by walk_at "ne"
      generalize upd (upd H4 l9 (.lst [.int 0])) L9 (.lst TH) = H5 at S5 k1 k3 ⊢
      have np : p ≠ l9 := ne_of_none gp hl9
      have nt : t ≠ l9 := ne_of_none gt hl9
      have gp5 := S5 _ _ gp
      have gt5 := S5 _ _ gt
      have hT : ∀ x ∈ TH, ∀ H', Fr1 l9 H5 H' → ∀ zs, H' l9 = some (.lst zs) → zs.length ≤ 5000 → NotM K H' (ms.length : Nat) x ∧ LoN K H' x ∧ SelfV x ∧ (∀ L, H' L = none → x ≠ .ref L) ∧ ∀ b xs, x = .ref b → H5 b = some (.lst xs) → b = l9 := by
        intro x hx H' f zs e hz
        have k2' := f _ _ np gp5
        have ty : TyX K H' (.ref p) (.ref T.C_Counts) := by walk_at "tyx"
        rw [hTH] at hx
        simp only [List.mem_cons, List.not_mem_nil, or_false] at hx
        rcases hx with rfl | rfl | rfl | rfl | rfl | rfl | rfl
        · exact ⟨.inl ⟨_, rfl, by rw [List.length_map]; omega⟩, .inr ⟨_, .base (.int _), by walk_at "kit", .inl fun a z => by cases z⟩, .inr (.inr (.inl ⟨_, rfl⟩)), fun L _ z => (by cases z), fun b xs z => by cases z⟩
        · exact ⟨.inl ⟨_, rfl, by omega⟩, .inr ⟨_, .base (.int _), by walk_at "kit", .inl fun a z => by cases z⟩, .inr (.inr (.inl ⟨_, rfl⟩)), fun L _ z => (by cases z), fun b xs z => by cases z⟩
        · exact ⟨.inr (.inr ⟨_, .base .non, by walk_at "kit"⟩), .inr ⟨_, .base .non, by walk_at "kit", .inl fun a z => by cases z⟩, .inr (.inr (.inr (.inr rfl))), fun L _ z => (by cases z), fun b xs z => by cases z⟩
        · exact ⟨.inr (.inl ⟨_, rfl⟩), .inr ⟨_, .base (.bl _), by walk_at "kit", .inl fun a z => by cases z⟩, .inr (.inr (.inr (.inl ⟨_, rfl⟩))), fun L _ z => (by cases z), fun b xs z => by cases z⟩
        · exact ⟨.inr (.inr ⟨_, .base (.str _), by walk_at "kit"⟩), .inr ⟨_, .base (.str _), by walk_at "kit", .inl fun a z => by cases z⟩, .inr (.inl ⟨_, rfl⟩), fun L _ z => (by cases z), fun b xs z => by cases z⟩
        · exact ⟨.inr (.inr ⟨_, .base (.lst e), by walk_at "kit"⟩), .inl ⟨l9, zs, rfl, e, hz⟩, .inl ⟨_, rfl⟩, fun L eL z => (by cases z; rw [e] at eL; cases eL), fun b xs z _ => by cases z; rfl⟩
        · exact ⟨.inr (.inr ⟨_, ty, by walk_at "kit"⟩), .inr ⟨_, ty, by walk_at "kit", .inr ⟨p, _, rfl, k2', fun xs z => by cases z⟩⟩, .inl ⟨_, rfl⟩, fun L eL z => (by cases z; rw [k2'] at eL; cases eL), fun b xs z e2 => by cases z; rw [gp5] at e2; cases e2⟩
      have hTl : TH.length = 7 := by rw [hTH]; rfl
      clear hTH hL9
      refine for_list (K := K) (a := L9) (xs := TH) (fun i σ H' => (∃ u6 u7 u8 u9 u10 : Option V, σ = [some (.ref p), some (.ref a), some (.ref q), some (.int j), some (.int st), some (.ref L1), u6, u7, u8, u9, u10]) ∧ Fr1 l9 H5 H' ∧ ∃ zs, H' l9 = some (.lst zs) ∧ zs.length ≤ 1 + 3 * i) ⟨⟨u6, u7, u8, u9, u10, rfl⟩, Fr1.refl, _, k1, by simp⟩ (fun i σ H' _ h => SqL.of (h.2.1 _ _ n2 k3)) ?_ ?_
      · rintro i x σ H6 hx ⟨⟨u6, u7, u8, u9, u10, rfl⟩, f6, zs, z1, z2⟩
        have hi := (List.getElem?_eq_some_iff.mp hx).1
        have hT := hT x (List.mem_of_getElem? hx)
        walk_at "rdn"
        intro LM hLM
        have nxM := (hT H6 f6 zs z1 (by omega)).2.2.2.1 LM hLM
        have nLM : LM ≠ l9 := by walk_at "ne"
        have sM : Same H6 (upd H6 LM (.lst [.int 1, .int (-1), .non])) := Same.new hLM
        walk_at "rdn"
        have hTM : ∃ TM : List V, TM = [.int 1, .int (-1), .non] := ⟨_, rfl⟩
        obtain ⟨TM, hTM⟩ := hTM
        rw [← hTM]
        rw [← hTM] at sM
        have hTMl : TM.length = 3 := by rw [hTM]; rfl
        clear hTM
        refine for_list (K := K) (a := LM) (xs := TM) (fun i2 σ H' => (∃ u6 u7 u8 u10 : Option V, σ = [some (.ref p), some (.ref a), some (.ref q), some (.int j), some (.int st), some (.ref L1), u6, u7, u8, some x, u10]) ∧ Fr1 l9 H5 H' ∧ H' LM = some (.lst TM) ∧ ∃ zs, H' l9 = some (.lst zs) ∧ zs.length ≤ 1 + 3 * i + i2) ⟨⟨u6, u7, u8, u10, rfl⟩, fun b o nb e => sM _ _ (f6 _ _ nb e), upd_same, zs, sM _ _ z1, by omega⟩ (fun i σ H' _ h => SqL.of h.2.2.1) ?_ ?_
        · rintro i2 y σ H7 hy ⟨⟨u6, u7, u8, u10, rfl⟩, f7, fM, zs, z1, z2⟩
          have hi2 := (List.getElem?_eq_some_iff.mp hy).1
          obtain ⟨y1, y3, y4, y5, y6⟩ := hT H7 f7 zs z1 (by omega)
          have cp := f7 _ _ np gp5
          have ct := f7 _ _ nt gt5
          walk_at "rdn"
          intro L hL
          walk_at "rdn"
          refine r_law_refused rfl (a := 1) (x := x) (hp := by walk_at "lk") (ht := by walk_at "lk") (hl := upd_same) (hr := .inl ⟨rfl, rfl, rfl, ⟨y, rfl⟩, y1.same (Same.new hL), y3.same (Same.new hL)⟩) (h5 := h5) (hx := y5 L hL) (hz := y4) ?_
          intro H10 f10 g10
          walk_at "rdn"
          obtain ⟨w1, ys, w2, w3⟩ := FrX.step f7 z1 (Same.new hL) f10 g10 y6
          exact ⟨⟨_, _, _, _, rfl⟩, w1, f10 _ _ (same_at (Same.new hL) fM) (fun xs _ ex => nxM ex), ys, w2, by omega⟩
        · rintro σ H7 ⟨⟨u6, u7, u8, u10, rfl⟩, f7, fM, zs, z1, z2⟩
          walk_at "rdn"
          exact ⟨⟨_, _, _, _, _, rfl⟩, f7, zs, z1, by omega⟩
      · rintro σ H6 ⟨⟨u6, u7, u8, u9, u10, rfl⟩, f6, zs, z1, z2⟩
        have S6 : Same H4 H6 := fun b o e => f6 _ _ (ne_of_none e hl9) (S5 _ _ e)
        clear f6 z1 hT gp5 gt5 S5 k1 k3
        have gp6 := S6 _ _ gp
        have gt6 := S6 _ _ gt
        walk_at "rdn"
        intro l10 hl10
        walk_at "rdn"
        intro L10 hL10
        walk_at "rdn"
        obtain ⟨TH2, hTH2⟩ : ∃ l : List V, l = [V.int (-1), V.non, V.bl true, V.str (Str.ofString "1"), V.ref l10, V.int (-10 ^ Int.toNat 29), V.ref p] := ⟨_, rfl⟩
        rw [← hTH2]
        have S7 : Same H6 (upd (upd H6 l10 (.lst [.int 1])) L10 (.lst TH2)) := (Same.new hl10).trans (Same.new hL10)
        have k1 : upd (upd H6 l10 (.lst [.int 1])) L10 (.lst TH2) l10 = some (.lst [.int 1]) := by walk_at "lk"
        have k3 : upd (upd H6 l10 (.lst [.int 1])) L10 (.lst TH2) L10 = some (.lst TH2) := upd_same
        generalize upd (upd H6 l10 (.lst [.int 1])) L10 (.lst TH2) = H7 at S7 k1 k3 ⊢
        have gp7 := S7 _ _ gp6
        have gt7 := S7 _ _ gt6
        have hT : ∀ x ∈ TH2, NotW0 K H7 x ∧ SelfV x := by
          have ty : TyX K H7 (.ref p) (.ref T.C_Counts) := by walk_at "tyx"
          intro x hx
          rw [hTH2] at hx
          simp only [List.mem_cons, List.not_mem_nil, or_false] at hx
          rcases hx with rfl | rfl | rfl | rfl | rfl | rfl | rfl
          · exact ⟨.inl ⟨_, rfl, by omega⟩, .inr (.inr (.inl ⟨_, rfl⟩))⟩
          · exact ⟨.inr (.inr ⟨_, .base .non, by walk_at "kit"⟩), .inr (.inr (.inr (.inr rfl)))⟩
          · exact ⟨.inr (.inl ⟨_, rfl⟩), .inr (.inr (.inr (.inl ⟨_, rfl⟩)))⟩
          · exact ⟨.inr (.inr ⟨_, .base (.str _), by walk_at "kit"⟩), .inr (.inl ⟨_, rfl⟩)⟩
          · exact ⟨.inr (.inr ⟨_, .base (.lst k1), by walk_at "kit"⟩), .inl ⟨_, rfl⟩⟩
          · exact ⟨.inl ⟨_, rfl, by decide +kernel⟩, .inr (.inr (.inl ⟨_, rfl⟩))⟩
          · exact ⟨.inr (.inr ⟨_, ty, by walk_at "kit"⟩), .inl ⟨_, rfl⟩⟩
        clear hTH2 hl10 hL10
        refine for_list (K := K) (a := L10) (xs := TH2) (fun i σ H' => (∃ u6 u7 u8 u9 u10 : Option V, σ = [some (.ref p), some (.ref a), some (.ref q), some (.int j), some (.int st), some (.ref L1), u6, u7, u8, u9, u10]) ∧ Same H7 H') ⟨⟨_, _, _, _, _, rfl⟩, Same.refl _⟩ (fun i σ H' _ h => SqL.of (h.2 _ _ k3)) ?_ ?_
        · rintro i x σ H8 hx ⟨⟨u6, u7, u8, u9, u10, rfl⟩, s8⟩
          obtain ⟨y1, y2⟩ := hT x (List.mem_of_getElem? hx)
          have y1 := y1.same s8
          have cp := s8 _ _ gp7
          have ct := s8 _ _ gt7
          walk_at "rdn"
          intro L hL
          walk_at "rdn"
          refine r_law_refused rfl (a := 2) (x := .int j) (hp := by walk_at "lk") (ht := by walk_at "lk") (hl := upd_same) (hr := .inr (.inl ⟨rfl, rfl, ⟨j, rfl, by omega, by omega⟩, rfl, y1.same (Same.new hL)⟩)) (h5 := h5) (hx := fun e => by cases e) (hz := y2) ?_
          intro H10 f10 _
          walk_at "rdn"
          exact ⟨⟨_, _, _, _, _, rfl⟩, s8.trans ((Same.new hL).trans (f10.all fun a e => by cases e))⟩
        · rintro σ H8 ⟨⟨u6, u7, u8, u9, u10, rfl⟩, s8⟩
          have S8 := S6.trans (S7.trans s8)
          have bp := S8 _ _ gp
          have bt := S8 _ _ gt
          have fq8 := S8 _ _ fq4
          have F8 : Fr1 q H H8 := fun b o nb e => S8 _ _ (F4 _ _ nb e)
          clear S7 S6 s8 hT k1 k3 gp7 gt7 gp6 gt6 gp gt fq4 F4 S8
          walk_at "rdn"
          rw [Int.toNat_natCast]
          intro rF dzF vF H9 s9 g1 g2
          have hmj : 0 ≤ ms.getD j 0 := by
            rw [List.getD_eq_getElem?_getD, List.getElem?_eq_getElem hjl]
            exact hm _ (List.getElem_mem _)
          have hMl : (ms.set j (ms.getD j 0 + (10 ^ Int.toNat 30 - 1))).length = ms.length := List.length_set
          have hMp : ∀ n ∈ ms.set j (ms.getD j 0 + (10 ^ Int.toNat 30 - 1)), 0 ≤ n := fun n hn => by
            rcases List.mem_or_eq_of_mem_set hn with h | h
            · exact hm n h
            · have : (0 : Int) ≤ 10 ^ Int.toNat 30 - 1 := by decide +kernel
              omega
          generalize ms.set j (ms.getD j 0 + (10 ^ Int.toNat 30 - 1)) = MS at hMl hMp g2
          walk_at "rdn"
          intro lA xsA HA sA2 hlA eA pA
          have lenA := pA.len
          have lenA2 := diffC_len (ms := MS) (ns := ms) (k := MS.length)
          walk_at "rdn"
          refine r_Counts_changed_1 rfl (hp := by walk_at "lk") (ht := by walk_at "lk") (ha := .inl eA) (hs := PairD.all pA) (hc := diffC_ok hMl.symm hMp) (hd := diffC_nodup) (hl := by omega) (h2 := by omega) (h5 := by omega) (hm := hm) ?_
          rw [diffC_leads hMl.symm]
          intro rB dzB vB HB sB g3 g4
          walk_at "rdn"
          intro lC xsC HC sC hlC eC pC
          have lenC := pC.len
          have lenC2 := diffC_len (ms := ms) (ns := MS) (k := ms.length)
          walk_at "rdn"
          refine r_Counts_changed_1 rfl (hp := by walk_at "lk") (ht := by walk_at "lk") (ha := .inl eC) (hs := PairD.all pC) (hc := diffC_ok hMl hm) (hd := diffC_nodup) (hl := by omega) (h2 := by omega) (h5 := by omega) (hm := hMp) ?_
          rw [diffC_leads hMl]
          intro rD dzD vD HD sD g5 g6
          walk_at "rdn"
          rw [Int.toNat_natCast]
          intro rE dzE vE HE sE g7 g8
          walk_at "rdn"
          have SE := s9.trans (sA2.trans (sB.trans (sC.trans (sD.trans sE))))
          have e9 : ms.set j (ms.getD j 0 + 0) = ms := by
            rw [Int.add_zero, List.getD_eq_getElem?_getD, List.getElem?_eq_getElem hjl]
            exact List.set_getElem_self hjl
          rw [e9]
          exact R_of (k _ _ (fun b o nb e => SE _ _ (F8 _ _ nb e)) (SE _ _ fq8) hz2) (by simp)
theorem ok_law_from (T : Tx K mg) : FnOk P w K mg base CX0 10 T.f_law_from T.d_law_from ["counts", "row", "rival", "other"] (sp_law_from K T.C_Counts) := by
  refine T.F_law_from.ok sc_law_from (fun vs H Q E h => ?_) (fun cdv A outer s H vs Q E hr h => ?_)
  · rcases h with ⟨p, dx, t, a, q, dy, u, b, ms, ns, rfl, hp, ht, ha, hq, hu, hb, hl, h2, h5, hm, hn, k⟩
    all_goals rfl
  · have hu := hu_of hr
    refine ⟨_, (pss_cons (ps_set (i := 4) sc_law_from.nd rfl (Or.inl rfl) (pe_meth (pv 0) T.c_Counts T.mt_Counts_changes_from (ok_Counts_changes_from (P := P) T) (hr.mono (by decide)) T.b_Counts_changes_from .nil passL (pa_cons (pv 2) (pa_nil))))
      (pss_cons (ps_setLc (i := 5) (own := [("k", 8)]) (g := gName 8) rfl sc_law_from.nd rfl rfl (sw_true rfl rfl rfl (by decide +kernel)) (pi_range1 rfl T.z_range (pa_cons (pe_callB (id := "len") (kx_len (K := K) rfl) (by rfl) T.z_len (by decide +kernel) (pa_cons (pv 1) (pa_nil))) (pa_nil))) (blkOk_by (own := [("k", 8)]) (N := ["counts", "row", "rival", "other", "told", "due", "thing", "unlike", "k", "change"]) (sc := defScope s_law_from) (by decide +kernel)) (fun _ _ _ _ _ => (pg_name (i := 8) sc_law_from.nd rfl (Or.inl rfl))) (fun _ _ _ _ _ => (pts_one (pt_cmpR op_ne (pe_ix (ki_list (K := K) rfl) (pv 1) (pv 8) (fun _ _ => rfl)) (pe_ix (ki_list (K := K) rfl) (pv 3) (pv 8) (fun _ _ => rfl)) (nomark _)))) (fun _ _ _ _ _ => (pe_tup (pa_cons (pv 8) (pa_cons (pe_ix (ki_list (K := K) rfl) (pv 1) (pv 8) (fun _ _ => rfl)) (pa_nil))))))
      (pss_cons (ps_if (PW.pt (pw_or (pt_not (pt_val (pe_callB (id := "isinstance") (kx_isi (K := K) rfl) (by rfl) T.z_isinstance (by decide +kernel) (pa_cons (pv 4) (pa_cons (pe_bltn (v := .ty "list") (u := .type "list") (by rfl) T.z_list (by decide +kernel) rfl) (pa_nil)))))) (pw_or (pt_cmpR (ko_neD (K := K) rfl hr.units) (pv 4) (pv 5) (nomark _)) (pw_or1 (pt_not (pt_val (pe_callB (id := "all") (kx_all (K := K) rfl rfl) (by rfl) T.z_all (by decide +kernel) (pa_cons (pe_lc (own := [("change", 9)]) (g := gName 9) (tt := tYes) rfl sc_law_from.nd (kpi_list (K := K) rfl (pv 4)) (blkOk_by (own := [("change", 9)]) (N := ["counts", "row", "rival", "other", "told", "due", "thing", "unlike", "k", "change"]) (sc := defScope s_law_from) (by decide +kernel)) (fun _ _ _ _ _ => (pg_name (i := 9) sc_law_from.nd rfl (Or.inl rfl))) (fun _ _ _ _ _ => pts_nil) (fun _ _ _ _ _ => (pe_callB (id := "isinstance") (kx_isi (K := K) rfl) (by rfl) T.z_isinstance (by decide +kernel) (pa_cons (pv 9) (pa_cons (pe_bltn (v := .ty "tuple") (u := .type "tuple") (by rfl) T.z_tuple (by decide +kernel) rfl) (pa_nil)))))) (pa_nil)))))))))
      (pss_one (ps_ret pe_bl)) pss_nil)
      (pss_cons (ps_if (PW.pt (pw_or (pt_cmpR (op_neO rfl T.ne_Counts T.hm_Counts T.mt_Counts_eq.at_ T.mt_Counts_eq.fn (ok_Counts_eq (P := P) T) (hr.mono (by decide)) T.b_Counts_eq pass0) (pe_meth (pv 2) T.c_Counts T.mt_Counts_changed (ok_Counts_changed (P := P) T) (hr.mono (by decide)) T.b_Counts_changed .nil passL (pa_cons (pv 4) (pa_nil))) (pv 0) (nomark _)) (pw_or1 (pt_cmpR (op_neO rfl T.ne_Counts T.hm_Counts T.mt_Counts_eq.at_ T.mt_Counts_eq.fn (ok_Counts_eq (P := P) T) (hr.mono (by decide)) T.b_Counts_eq pass0) (pe_meth (pv 2) T.c_Counts T.mt_Counts_changed (ok_Counts_changed (P := P) T) (hr.mono (by decide)) T.b_Counts_changed .nil passL (pa_cons (pe_callTy (T := "tuple") (kx_tuple (K := K) rfl) (by rfl) T.z_tuple (by decide +kernel) (pa_cons (pv 4) (pa_nil))) (pa_nil))) (pv 0) (nomark _)))))
      (pss_one (ps_ret pe_bl)) pss_nil)
      (pss_cons (ps_expr (pe_bm PySem.F.plainAttrs_list PySem.F.slot_list_append PySem.F.type_list_append mt_append (pv 4) (pa_cons (pe_tup (pa_cons pe_int (pa_cons pe_int (pa_nil)))) (pa_nil))))
      (pss_cons (ps_if (PW.pt (pw_or (pt_cmpR (ko_neD (K := K) rfl hr.units) (pe_meth (pv 0) T.c_Counts T.mt_Counts_changes_from (ok_Counts_changes_from (P := P) T) (hr.mono (by decide)) T.b_Counts_changes_from .nil passL (pa_cons (pv 2) (pa_nil))) (pv 5) (nomark _)) (pw_or1 (pt_cmpR (ko_neD (K := K) rfl hr.units) (pe_meth0 (pv 2) T.c_Counts T.mt_Counts_told (ok_Counts_told (P := P) T) (hr.mono (by decide)) T.b_Counts_told .nil pass0) (pe_callTy (T := "tuple") (kx_tuple (K := K) rfl) (by rfl) T.z_tuple (by decide +kernel) (pa_cons (pv 3) (pa_nil))) (nomark _)))))
      (pss_one (ps_ret pe_bl)) pss_nil)
      (pss_cons (ps_for PassesOwn.never rfl (kpi_list (K := K) rfl (pe_lst (pa_cons pe_non (pa_cons pe_int (pa_cons pe_bl (pa_cons (pe_callTy (T := "list") (kx_list (K := K) rfl) (by rfl) T.z_list (by decide +kernel) (pa_cons (pv 1) (pa_nil))) (pa_cons (pe_callTy (T := "tuple") (kx_tuple (K := K) rfl) (by rfl) T.z_tuple (by decide +kernel) (pa_cons (pv 1) (pa_nil))) (pa_cons pe_str (pa_nil))))))))) (pg_name (i := 6) sc_law_from.nd rfl (Or.inl rfl))
      (pss_one (ps_if (pt_not (pt_val (pe_call (ok_law_refused (P := P) T) (hr.mono (by decide)) rfl T.m_law_refused T.k_law_refused T.b_law_refused .nil pass0 (pa_cons pe_int (pa_cons (pv 0) (pa_cons (pe_lst (pa_cons (pv 6) (pa_nil))) (pa_cons pe_int (pa_cons (pv 6) (pa_nil)))))))))
      (pss_one (ps_ret pe_bl)) pss_nil)))
      (pss_cons (ps_set (i := 7) sc_law_from.nd rfl (Or.inl rfl) (pe_make T.mk_Counts (ok_Counts_init (P := P) T) (hr.mono (by decide)) rfl T.g_Counts T.b_Counts_init .nil pass0 (pa_cons (pe_op op_rep (pe_lst (pa_cons pe_int (pa_nil))) (pe_op op_add pe_int (pe_op op_mod (pe_op op_sub (pe_callB (id := "len") (kx_len (K := K) rfl) (by rfl) T.z_len (by decide +kernel) (pa_cons (pv 1) (pa_nil))) pe_int) pe_int))) (pa_nil))))
      (pss_one (ps_ret (pe_call (ok_law_refused (P := P) T) (hr.mono (by decide)) rfl T.m_law_refused T.k_law_refused T.b_law_refused .nil pass0 (pa_cons pe_int (pa_cons (pv 0) (pa_cons (pe_lst (pa_cons (pv 7) (pa_nil))) (pa_cons pe_int (pa_cons (pv 7) (pa_nil))))))))))))))))), ?_⟩
    rcases h with ⟨p, dx, t, a, q, dy, u, b, ms, ns, rfl, hp, ht, ha, hq, hu, hb, hl, h2, h5, hm, hn, k⟩
    walk_at "rdn"
    intro l xs H1 s1 hl0 e1 hP
    walk_at "rdn"
    intro D hD
    have fa := same_at s1 ha
    have fb := same_at s1 hb
    refine lc_it walk_range (fun i H9 => Same H1 H9 ∧ ∃ ys, All2 (PairD D H9) ys (diffC ms ns i) ∧ H9 D = some (.lst ys)) ⟨Same.new hD, [], .nil, upd_same⟩ (fun _ _ _ _ => trivial) ?_ ?_
    · rintro i x H2 H' hi ⟨s2, ys, hQ, hD2⟩ ⟨rfl, rfl⟩
      have hi2 : i < ms.length := by simpa using hi
      have hl2 := hQ.len
      have hl3 := diffC_len (ms := ms) (ns := ns) (k := i)
      refine ⟨wipe_set, ?_⟩
      walk_at "rdn"
      refine q_ifx (fun hb => ?_) (fun hb => ?_)
      · refine ⟨s2, ys, ?_, hD2⟩
        unfold diffC
        rw [if_pos hb]
        exact hQ
      · walk_at "rdn"
        intro p3 hp3
        walk_at "rdn"
        refine ⟨ys, by walk_at "lk", line_lt (by omega), (s2.trans (Same.new hp3)).snew hD, ys ++ [.ref p3], ?_, upd_same⟩
        unfold diffC
        rw [if_neg hb]
        exact All2.snoc (hQ.mono fun x c z => (z.same (Same.new hp3)).upd) ⟨p3, rfl, by walk_at "ne", (upd_ne (by walk_at "ne")).trans (by rw [upd_same]; dsimp only; rw [Int.zero_add])⟩
    · rintro H2 ⟨s2, ys, hQ, hD2⟩
      rw [show (↑(List.map V.int ms).length : Int).toNat = ms.length by simp] at hQ
      have hP2 := hP.mono fun x c z => z.same s2
      clear hP
      have el := same_at s2 e1
      have l1 := hP2.len
      have l2 := diffC_len (ms := ms) (ns := ns) (k := ms.length)
      have hnl : ∀ x ∈ xs, ∃ t, x = .ref t ∧ t ≠ l ∧ ∃ c : Int × Int, H2 t = some (.tup [.int c.1, .int c.2]) := fun x hx => by
        obtain ⟨c, _, t, rfl, h1, h2⟩ := hP2.mem hx
        exact ⟨t, rfl, h1, c, h2⟩
      have S := s1.trans s2
      walk_at "rdn"
      refine q_neLP (SqL.of el) (SqL.of hD2) (PairD.all hP2) (PairD.all hQ) ?_
      walk_at "rdn"
      intro D3 hD3
      refine lc_itemsB (fun _ => true) (SqL.of el) (by omega) hD3 (fun x hx H3 R s3 hR => ?_) (fun H3 s3 e3 => ?_)
      · obtain ⟨t, rfl, _, c, ht⟩ := hnl x hx
        have ht := same_at s3 ht
        walk_at "rdn"
        exact hR H3 (Same.refl H3)
      · rw [show (List.map (fun _ => true) xs).map V.bl = (List.replicate xs.length true).map V.bl by rw [List.map_const']] at e3
        have A2 := PairD.all hP2
        have cC : ∀ c ∈ diffC ms ns ms.length, 0 ≤ c.1 ∧ c.1 ≤ (ns.length : Nat) - 1 ∧ 0 ≤ c.2 := fun c hc => by
          obtain ⟨j, h1, rfl⟩ := diffC_mem hc
          refine ⟨by show (0:Int) ≤ j; omega, by show (j : Int) ≤ _; omega, ?_⟩
          show 0 ≤ ms.getD j 0
          rw [List.getD_eq_getElem?_getD, List.getElem?_eq_getElem h1]
          exact hm _ (List.getElem_mem _)
        have S3 := S.trans s3
        have el3 := same_at s3 el
        have A3 := PairAt.all A2 s3
        have Q3 := PairAt.all (PairD.all hQ) s3
        have eD3 := same_at s3 hD2
        walk_at "rdn"
        refine q_ifs (fun _ => ?_) (fun hf => absurd hf (by simp))
        have nlD0 : l ≠ D := by walk_at "ne"
        clear hQ s1 s2 s3 S e1 el fa fb A2 hP2 hD3 e3 hD hD2
        walk_at "rdn"
        refine r_Counts_changed_1 rfl (hp := by walk_at "lk") (ht := by walk_at "lk") (ha := .inl el3) (hs := A3) (hc := cC) (hd := diffC_nodup) (hl := by omega) (h2 := by omega) (h5 := by omega) (hm := hn) ?_
        rw [diffC_leads hl]
        intro r2 dz2 v2 H4 s4 g1 g2
        walk_at "rdn"
        intro tp htp
        walk_at "rdn"
        have S4 : Same H3 (upd H4 tp (.tup xs)) := s4.trans (Same.new htp)
        refine r_Counts_changed_1 rfl (hp := by walk_at "lk") (ht := by walk_at "lk") (ha := .inr upd_same) (hs := PairAt.all A3 S4) (hc := cC) (hd := diffC_nodup) (hl := by omega) (h2 := by omega) (h5 := by omega) (hm := hn) ?_
        rw [diffC_leads hl]
        intro r5 dz5 v5 H5 s5 g3 g4
        walk_at "rdn"
        have S5 := S3.trans (S4.trans s5)
        have Q5 := PairAt.all Q3 (S4.trans s5)
        have el5 := same_at (S4.trans s5) el3
        have eD5 := same_at (S4.trans s5) eD3
        have nlD : l ≠ D := fun e => nlD0 e
        clear s4 htp S4 s5 g1 g2 g3 g4 A3 el3 eD3 Q3 S3
        intro tp2 htp2
        walk_at "rdn"
        have Q6 := PairAt.updL (o := .lst (xs ++ [.ref tp2])) (PairAt.all Q5 (Same.new (o := .tup [.int 0, .int 7]) htp2)) (l := l) (zs := xs) (by walk_at "lk")
        have S6 : Same H (upd (upd H5 tp2 (.tup [.int 0, .int 7])) l (.lst (xs ++ [.ref tp2]))) := by walk_at "sm"
        have eD6 : upd (upd H5 tp2 (.tup [.int 0, .int 7])) l (.lst (xs ++ [.ref tp2])) D = some (.lst ys) := by walk_at "lk"
        generalize upd (upd H5 tp2 (.tup [.int 0, .int 7])) l (.lst (xs ++ [.ref tp2])) = H6 at Q6 S6 eD6 ⊢
        clear S5 Q5 el5 eD5 htp2
        walk_at "rdn"
        intro l2 xs2 H7 s7 hl2 e7 hP7
        have eD7 := same_at s7 eD6
        have Q7 := PairAt.all Q6 s7
        walk_at "rdn"
        refine q_neLP (SqL.of e7) (SqL.of eD7) (PairD.all hP7) Q7 ?_
        have S7 := S6.trans s7
        clear hP7 Q7 eD7 e7 hl2 s7 S6 Q6 eD6
        walk_at "rdn"
        intro t8 ht8
        walk_at "rdn"
        intro l9 hl9
        walk_at "rdn"
        intro t9 ht9
        walk_at "rdn"
        intro L9 hL9
        walk_at "rdn"
        obtain ⟨TH, hTH⟩ : ∃ l : List V, l = [V.non, V.int 0, V.bl true, V.ref l9, V.ref t9, V.str (Str.ofString "1")] := ⟨_, rfl⟩
        rw [← hTH]
        have S9 : Same H (upd (upd (upd (upd H7 t8 (.tup (ns.map V.int))) l9 (.lst (ms.map V.int))) t9 (.tup (ms.map V.int))) L9 (.lst TH)) := by walk_at "sm"
        have k1 : upd (upd (upd (upd H7 t8 (.tup (ns.map V.int))) l9 (.lst (ms.map V.int))) t9 (.tup (ms.map V.int))) L9 (.lst TH) l9 = some (.lst (ms.map V.int)) := by walk_at "lk"
        have k2 : upd (upd (upd (upd H7 t8 (.tup (ns.map V.int))) l9 (.lst (ms.map V.int))) t9 (.tup (ms.map V.int))) L9 (.lst TH) t9 = some (.tup (ms.map V.int)) := by walk_at "lk"
        have k3 : upd (upd (upd (upd H7 t8 (.tup (ns.map V.int))) l9 (.lst (ms.map V.int))) t9 (.tup (ms.map V.int))) L9 (.lst TH) L9 = some (.lst TH) := upd_same
        have n1 : t9 ≠ l9 := by walk_at "ne"
        have n2 : L9 ≠ l9 := by walk_at "ne"
        have n3 : H l9 = none := Same.free S7 (upd_free hl9)
        generalize upd (upd (upd (upd H7 t8 (.tup (ns.map V.int))) l9 (.lst (ms.map V.int))) t9 (.tup (ms.map V.int))) L9 (.lst TH) = H0 at S9 k1 k2 k3 ⊢
        clear S7 ht8 hl9 ht9 hL9
        have hT : ∀ x ∈ TH, ∀ H', Fr1 l9 H0 H' → ∀ zs, H' l9 = some (.lst zs) → zs.length ≤ 5000 → (∃ ty, TyX K H' x ty ∧ PySem.W.kitOne K ty (.ref T.C_Counts) = some false) ∧ LoN K H' x ∧ SelfV x ∧ (∀ L, H' L = none → x ≠ .ref L) ∧ ∀ b xs, x = .ref b → H0 b = some (.lst xs) → b = l9 := by
          intro x hx H' f zs e hz
          have k2' := f _ _ n1 k2
          rw [hTH] at hx
          simp only [List.mem_cons, List.not_mem_nil, or_false] at hx
          rcases hx with rfl | rfl | rfl | rfl | rfl | rfl
          · exact ⟨⟨_, .base .non, by walk_at "kit"⟩, .inr ⟨_, .base .non, by walk_at "kit", .inl fun a z => by cases z⟩, .inr (.inr (.inr (.inr rfl))), fun L _ z => (by cases z), fun b xs z => by cases z⟩
          · exact ⟨⟨_, .base (.int _), by walk_at "kit"⟩, .inr ⟨_, .base (.int _), by walk_at "kit", .inl fun a z => by cases z⟩, .inr (.inr (.inl ⟨_, rfl⟩)), fun L _ z => (by cases z), fun b xs z => by cases z⟩
          · exact ⟨⟨_, .base (.bl _), by walk_at "kit"⟩, .inr ⟨_, .base (.bl _), by walk_at "kit", .inl fun a z => by cases z⟩, .inr (.inr (.inr (.inl ⟨_, rfl⟩))), fun L _ z => (by cases z), fun b xs z => by cases z⟩
          · exact ⟨⟨_, .base (.lst e), by walk_at "kit"⟩, .inl ⟨l9, zs, rfl, e, hz⟩, .inl ⟨_, rfl⟩, fun L eL z => (by cases z; rw [e] at eL; cases eL), fun b xs z _ => by cases z; rfl⟩
          · exact ⟨⟨_, .base (.tup k2'), by walk_at "kit"⟩, .inr ⟨_, .base (.tup k2'), by walk_at "kit", .inr ⟨t9, _, rfl, k2', fun xs z => by cases z⟩⟩, .inl ⟨_, rfl⟩, fun L eL z => (by cases z; rw [k2'] at eL; cases eL), fun b xs z e2 => by cases z; rw [k2] at e2; cases e2⟩
          · exact ⟨⟨_, .base (.str _), by walk_at "kit"⟩, .inr ⟨_, .base (.str _), by walk_at "kit", .inl fun a z => by cases z⟩, .inr (.inl ⟨_, rfl⟩), fun L _ z => (by cases z), fun b xs z => by cases z⟩
        have hTl : TH.length = 6 := by rw [hTH]; rfl
        clear hTH
        have bp := S9 _ _ hp
        have bt := S9 _ _ ht
        have np : p ≠ l9 := ne_of_none hp n3
        have nt : t ≠ l9 := ne_of_none ht n3
        refine for_list (K := K) (a := L9) (xs := TH) (fun i σ H' => (∃ u6 u7 u8 u9 : Option V, σ = [some (.ref p), some (.ref a), some (.ref q), some (.ref b), some (.ref l), some (.ref D), u6, u7, u8, u9]) ∧ Fr1 l9 H0 H' ∧ ∃ zs, H' l9 = some (.lst zs) ∧ zs.length ≤ ms.length + i) ⟨⟨none, none, none, none, rfl⟩, Fr1.refl, _, k1, by simp⟩ (fun i σ H' _ h => SqL.of (h.2.1 _ _ n2 k3)) ?_ ?_
        · rintro i x σ H8 hx ⟨⟨u6, u7, u8, u9, rfl⟩, f8, zs, z1, z2⟩
          have hi := (List.getElem?_eq_some_iff.mp hx).1
          obtain ⟨⟨ty, y1, y2⟩, y3, y4, y5, y6⟩ := hT x (List.mem_of_getElem? hx) H8 f8 zs z1 (by omega)
          have cp := f8 _ _ np bp
          have ct := f8 _ _ nt bt
          walk_at "rdn"
          intro L hL
          walk_at "rdn"
          refine r_law_refused rfl (a := 0) (x := x) (hp := by walk_at "lk") (ht := by walk_at "lk") (hl := upd_same) (hr := .inr (.inr (.inl ⟨rfl, rfl, rfl, rfl, ⟨ty, y1.mono (Same.new hL), y2⟩, y3.same (Same.new hL)⟩))) (h5 := h5) (hx := y5 L hL) (hz := y4) ?_
          intro H10 f10 g10
          walk_at "rdn"
          obtain ⟨w1, ys, w2, w3⟩ := FrX.step f8 z1 (Same.new hL) f10 g10 y6
          exact ⟨⟨_, _, _, _, rfl⟩, w1, ys, w2, by omega⟩
        · rintro σ H8 ⟨⟨u6, u7, u8, u9, rfl⟩, f8, zs, z1, z2⟩
          have S8 : Same H H8 := fun b o e => f8 _ _ (ne_of_none e n3) (S9 _ _ e)
          clear S9 f8 z1 hT bp bt
          walk_at "rdn"
          intro p4 hp4
          walk_at "rdn"
          obtain ⟨o, ho⟩ : ∃ o : Int, o = 2 + (↑(List.map V.int ms).length - 1) % 4 := ⟨_, rfl⟩
          rw [← ho]
          rw [List.length_map] at ho
          have o2 : 2 ≤ o := by omega
          have o5 : o ≤ 5 := by omega
          have om : o ≠ ms.length := by omega
          clear ho
          refine q_rep (xs := [V.int 1]) upd_same (by omega) (by omega) (line_of (by simp only [List.length_cons, List.length_nil]; omega)) ?_
          rw [rep_ints]
          intro w1 hw1
          walk_at "rdn"
          intro x1 dx1 nx1 ndx1 nex1
          refine r_Counts_init rfl (hp := upd_same) (ha := by walk_at "lk") (hl := by simp; omega) (hl2 := by simp; omega) (hn := nn_rep (by decide)) ?_
          intro t1 H11 f11 g1 g2
          have s11 : Same H8 H11 := fun b q eb => f11 b q (by walk_at "ne") (by walk_at "lk")
          have S11 := S8.trans s11
          clear f11 hp4 hw1 nx1 ndx1 nex1 S8 s11
          refine ⟨rfl, ?_⟩
          walk_at "rdn"
          intro L hL
          walk_at "rdn"
          have nxL : x1 ≠ L := by walk_at "ne"
          refine r_law_refused rfl (a := 3) (x := .ref x1) (hp := by walk_at "lk") (ht := by walk_at "lk") (hl := upd_same) (hr := .inr (.inr (.inr (.inl ⟨rfl, rfl, rfl, rfl, x1, _, rfl, ⟨dx1, t1, by walk_at "lk", by walk_at "lk"⟩, by simp; omega, by simp; omega⟩)))) (h5 := h5) (hx := fun e => nxL (V.ref.inj e)) (hz := .inl ⟨_, rfl⟩) ?_
          intro H12 f12 _
          refine k _ fun b o eb => f12 b o ((S11.trans (Same.new hL)) _ _ eb) fun xs eo ex => ?_
          cases ex
          have z := S11 _ _ eb
          rw [g1, eo] at z
          cases z
theorem ok_law_some (T : Tx K mg) : FnOk P w K mg base CX0 3 T.f_law_some T.d_law_some ["row", "pool"] (sp_law_some K) := by
  refine T.F_law_some.ok sc_law_some (fun vs H Q E h => ?_) (fun cdv A outer s H vs Q E hr h => ?_)
  · rcases h with ⟨a, q, ms, n, rfl, ha, hq, hn, haq, h5, k⟩
    all_goals rfl
  · have hu := hu_of hr
    refine ⟨_, (pss_cons (ps_set (i := 2) sc_law_some.nd rfl (Or.inl rfl) (pe_lst pa_nil))
      (pss_cons (ps_for PassesOwn.never rfl (pi_range1 rfl T.z_range (pa_cons (pe_callB (id := "len") (kx_len (K := K) rfl) (by rfl) T.z_len (by decide +kernel) (pa_cons (pv 0) (pa_nil))) (pa_nil))) (pg_name (i := 3) sc_law_some.nd rfl (Or.inl rfl))
      (pss_cons (ps_set (i := 4) sc_law_some.nd rfl (Or.inl rfl) (pe_call (ok_law_take (P := P) T) (hr.mono (by decide)) rfl T.m_law_take T.k_law_take T.b_law_take .nil pass0 (pa_cons (pv 1) (pa_cons (pe_ix (ki_list (K := K) rfl) (pe_lst (pa_cons pe_int (pa_cons pe_int (pa_cons (pe_op op_pow pe_int pe_int) (pa_nil))))) (pe_call (ok_law_take (P := P) T) (hr.mono (by decide)) rfl T.m_law_take T.k_law_take T.b_law_take .nil pass0 (pa_cons (pv 1) (pa_cons pe_int (pa_nil)))) (fun _ _ => rfl)) (pa_nil)))))
      (pss_one (ps_if (pt_cmpR op_gt (pe_call (ok_law_take (P := P) T) (hr.mono (by decide)) rfl T.m_law_take T.k_law_take T.b_law_take .nil pass0 (pa_cons (pv 1) (pa_cons pe_int (pa_nil)))) pe_int (nomark _))
      (pss_one (ps_expr (pe_bm PySem.F.plainAttrs_list PySem.F.slot_list_insert PySem.F.type_list_insert mt_insert (pv 2) (pa_cons (pe_call (ok_law_take (P := P) T) (hr.mono (by decide)) rfl T.m_law_take T.k_law_take T.b_law_take .nil pass0 (pa_cons (pv 1) (pa_cons (pe_op op_add (pe_callB (id := "len") (kx_len (K := K) rfl) (by rfl) T.z_len (by decide +kernel) (pa_cons (pv 2) (pa_nil))) pe_int) (pa_nil)))) (pa_cons (pe_tup (pa_cons (pv 3) (pa_cons (pv 4) (pa_nil)))) (pa_nil)))))) pss_nil))))
      (pss_one (ps_ret (pv 2))))), ?_⟩
    rcases h with ⟨a, q, ms, n, rfl, ha, hq, hn, haq, h5, k⟩
    walk_at "rdn"
    intro l hl0
    walk_at "rdn"
    have nlq : l ≠ q := by walk_at "ne"
    have nal : a ≠ l := by walk_at "ne"
    refine for_range (fun i σ H9 => ∃ (z : Int) (xs : List V) (cs : List (Int × Int)) (u3 u4 : Option V), σ = [some (.ref a), some (.ref q), some (.ref l), u3, u4] ∧ Fr1 q H H9 ∧ H9 q = some (.lst [.int z]) ∧ 0 ≤ z ∧ H9 l = some (.lst xs) ∧ All2 (PairD q H9) xs cs ∧ (∀ c ∈ cs, 0 ≤ c.1 ∧ c.1 ≤ (i : Int) - 1 ∧ 0 ≤ c.2) ∧ (cs.map (·.1)).Nodup ∧ cs.length ≤ i) ?_ ?_ ?_
    · exact ⟨n, [], [], none, none, rfl, fun b o nb e => by walk_at "lk", by walk_at "lk", hn, upd_same, .nil, by simp, by simp, by simp⟩
    · rintro i σ H9 hi ⟨z, xs, cs, u3, u4, rfl, f1, f2, hz, f3, f4, f5, f6, f7⟩
      have hxl := f4.len
      have hi2 : i < ms.length := by simpa using hi
      walk_at "rdn"
      intro sA hsA
      walk_at "rdn"
      obtain ⟨m1, h1, h2⟩ := at_ints [3, 1000, 10 ^ Int.toNat 29] (fun x => 0 < x ∧ x ≤ 10 ^ 29) (i := z % 3) (by decide +kernel) (by omega) (by show z % 3 < 3; omega)
      have nqs : q ≠ sA := by walk_at "ne"
      refine q_ixL (by walk_at "sq") h1 ?_
      have hb : m1.natAbs < 2 ^ 8000 := Nat.lt_of_le_of_lt (show m1.natAbs ≤ 10 ^ 29 by omega) (by decide +kernel)
      walk_at "rdn"
      have hn0 : 0 ≤ z / 3 % m1 := Int.emod_nonneg _ (by omega)
      have hz2 : 0 ≤ z / 3 / m1 := Int.ediv_nonneg (by omega) (by omega)
      generalize z / 3 % m1 = nu at hn0 ⊢
      generalize z / 3 / m1 = z2 at hz2 ⊢
      have f5' : ∀ c ∈ cs, 0 ≤ c.1 ∧ c.1 ≤ ((i + 1 : Nat) : Int) - 1 ∧ 0 ≤ c.2 := fun c hc => by
        obtain ⟨c1, c2, c3⟩ := f5 c hc
        exact ⟨c1, by omega, c3⟩
      refine q_ifx (fun hc => ?_) (fun hc => ?_)
      · walk_at "rdn"
        intro p3 hp3
        have hm0 : 0 ≤ z2 / 3 % (↑xs.length + 1) := Int.emod_nonneg _ (by omega)
        have hm1 : z2 / 3 % (↑xs.length + 1) < 2 ^ 63 := Int.lt_trans (Int.emod_lt_of_pos _ (by omega)) (show (↑xs.length : Int) + 1 < 2 ^ 63 by omega)
        walk_at "rdn"
        have nqp : p3 ≠ q := by walk_at "ne"
        have nlp : p3 ≠ l := by walk_at "ne"
        refine ⟨l, xs, _, _, rfl, rfl, by walk_at "lk", line_lt (by omega), hm0, hm1, ?_⟩
        obtain ⟨ix, hix⟩ : ∃ ix : Nat, ix = (z2 / 3 % (↑xs.length + 1)).toNat := ⟨_, rfl⟩
        rw [← hix]
        walk_at "rdn"
        have hp : (cs.take ix ++ [((i : Int), nu)] ++ cs.drop ix).Perm (((i : Int), nu) :: cs) := by
          rw [List.append_assoc]
          show (cs.take ix ++ ((i : Int), nu) :: cs.drop ix).Perm _
          refine List.perm_middle.trans ?_
          rw [List.take_append_drop]
        refine ⟨z2 / 3 / (↑xs.length + 1), _, cs.take ix ++ [((i : Int), nu)] ++ cs.drop ix, _, _, rfl, fun b o nb e => ?_, by walk_at "lk", Int.ediv_nonneg (by omega) (by omega), upd_same, ?_, ?_, ?_, ?_⟩
        · have := f1 b o nb e
          have nbl : b ≠ l := by walk_at "ne"
          walk_at "lk"
        · have f8 : All2 (PairD q (upd (upd (upd (upd (upd (upd (upd H9 sA (.lst [.int 3, .int 1000, .int (10 ^ Int.toNat 29)])) q (.lst [.int (z / 3)])) q (.lst [.int z2])) q (.lst [.int (z2 / 3)])) q (.lst [.int (z2 / 3 / (↑xs.length + 1))])) p3 (.tup [.int (0 + ↑i), .int nu])) l (.lst (xs.take ix ++ [.ref p3] ++ xs.drop ix)))) xs cs := f4.mono fun x c h => by
            obtain ⟨t, e, n1, h1⟩ := h
            have ntl : t ≠ l := fun e => by rw [e, f3] at h1; cases h1
            exact ⟨t, e, n1, by walk_at "lk"⟩
          refine ((f8.take ix).app (.cons ⟨p3, rfl, nqp, ?_⟩ .nil)).app (f8.drop ix)
          show _ = some (HO.tup [V.int (i : Int), V.int nu])
          rw [show V.int (i : Int) = V.int (0 + (i : Int)) by rw [Int.zero_add]]
          walk_at "lk"
        · intro c hc
          rcases List.mem_cons.mp (hp.mem_iff.mp hc) with rfl | hc
          · exact ⟨by show (0 : Int) ≤ i; omega, by show (i : Int) ≤ _; omega, hn0⟩
          · exact f5' c hc
        · refine (hp.map (·.1)).nodup_iff.mpr ?_
          rw [List.map_cons, List.nodup_cons]
          refine ⟨fun hm => ?_, f6⟩
          obtain ⟨c, hc, e⟩ := List.mem_map.mp hm
          have := (f5 c hc).2.1
          omega
        · rw [hp.length_eq, List.length_cons]
          omega
      · refine ⟨z2 / 3, xs, cs, _, _, rfl, fun b o nb e => ?_, upd_same, by omega, by walk_at "lk", ?_, f5', f6, by omega⟩
        · have := f1 b o nb e
          walk_at "lk"
        · refine f4.mono fun x c h => ?_
          obtain ⟨t, e, n1, h1⟩ := h
          exact ⟨t, e, n1, by walk_at "lk"⟩
    · rintro σ H9 ⟨z, xs, cs, u3, u4, rfl, f1, f2, hz, f3, f4, f5, f6, f7⟩
      walk_at "rdn"
      simp only [List.length_map, Int.toNat_natCast] at f5 f7
      exact k l xs cs z H9 f1 f2 hz hl0 nlq f3 f4 f5 f6 (by omega)
theorem ok_law_changed (T : Tx K mg) : FnOk P w K mg base CX0 10 T.f_law_changed T.d_law_changed ["counts", "row", "pool"] (sp_law_changed K T.C_Counts) := by
  refine T.F_law_changed.ok sc_law_changed (fun vs H Q E h => ?_) (fun cdv A outer s H vs Q E hr h => ?_)
  · rcases h with ⟨p, dx, t, a, q, ms, n, rfl, hp, ht, ha, hq, hn, haq, h2, h5, hm, k⟩
    all_goals rfl
  · have hu := hu_of hr
    refine ⟨_, (pss_cons (ps_set (i := 3) sc_law_changed.nd rfl (Or.inl rfl) (pe_call (ok_law_some (P := P) T) (hr.mono (by decide)) rfl T.m_law_some T.k_law_some T.b_law_some .nil pass0 (pa_cons (pv 1) (pa_cons (pv 2) (pa_nil)))))
      (pss_cons (ps_set (i := 4) sc_law_changed.nd rfl (Or.inl rfl) (pe_callTy (T := "list") (kx_list (K := K) rfl) (by rfl) T.z_list (by decide +kernel) (pa_cons (pv 1) (pa_nil))))
      (pss_cons (ps_for PassesOwn.never rfl (kpi_list (K := K) rfl (pv 3)) (kg_tup (K := K) (n := 2) rfl rfl (pgs_cons (pg_name (i := 5) sc_law_changed.nd rfl (Or.inl rfl)) (pgs_cons (pg_name (i := 6) sc_law_changed.nd rfl (Or.inl rfl)) pgs_nil)))
      (pss_one (ps_asg (pv 6) (pg_sub (pv 4) (pv 5) set_list))))
      (pss_cons (ps_set (i := 7) sc_law_changed.nd rfl (Or.inl rfl) (pe_callTy (T := "list") (kx_list (K := K) rfl) (by rfl) T.z_list (by decide +kernel) (pa_cons (pv 3) (pa_nil))))
      (pss_cons (ps_set (i := 8) sc_law_changed.nd rfl (Or.inl rfl) (pe_meth (pv 0) T.c_Counts T.mt_Counts_changed (ok_Counts_changed (P := P) T) (hr.mono (by decide)) T.b_Counts_changed .nil passL (pa_cons (pv 7) (pa_nil))))
      (pss_cons (ps_if (PW.pt (pw_or (pt_not (pt_val (pe_callB (id := "isinstance") (kx_isi (K := K) rfl) (by rfl) T.z_isinstance (by decide +kernel) (pa_cons (pv 8) (pa_cons (pe_glob (v := .ref T.C_Counts) rfl T.g_Counts rfl) (pa_nil)))))) (pw_or (pt_cmpR (ko_neD (K := K) rfl hr.units) (pe_meth0 (pv 8) T.c_Counts T.mt_Counts_told (ok_Counts_told (P := P) T) (hr.mono (by decide)) T.b_Counts_told .nil pass0) (pe_callTy (T := "tuple") (kx_tuple (K := K) rfl) (by rfl) T.z_tuple (by decide +kernel) (pa_cons (pv 4) (pa_nil))) (nomark _)) (pw_or (pt_cmpR (ko_neD (K := K) rfl hr.units) (pv 7) (pv 3) (nomark _)) (pw_or1 (pt_cmpR (ko_neD (K := K) rfl hr.units) (pe_meth0 (pv 0) T.c_Counts T.mt_Counts_told (ok_Counts_told (P := P) T) (hr.mono (by decide)) T.b_Counts_told .nil pass0) (pe_callTy (T := "tuple") (kx_tuple (K := K) rfl) (by rfl) T.z_tuple (by decide +kernel) (pa_cons (pv 1) (pa_nil))) (nomark _)))))))
      (pss_one (ps_ret pe_bl)) pss_nil)
      (pss_cons (ps_set (i := 9) sc_law_changed.nd rfl (Or.inl rfl) (pe_call (ok_law_take (P := P) T) (hr.mono (by decide)) rfl T.m_law_take T.k_law_take T.b_law_take .nil pass0 (pa_cons (pv 2) (pa_cons (pe_op op_add (pe_callB (id := "len") (kx_len (K := K) rfl) (by rfl) T.z_len (by decide +kernel) (pa_cons (pv 3) (pa_nil))) pe_int) (pa_nil)))))
      (pss_cons (ps_set (i := 10) sc_law_changed.nd rfl (Or.inl rfl) (pe_lst (pa_cons (pe_lst (pa_cons pe_int (pa_cons pe_int (pa_nil)))) (pa_cons (pe_tup (pa_cons pe_int (pa_nil))) (pa_cons (pe_tup (pa_cons pe_int (pa_cons pe_int (pa_cons pe_int (pa_nil))))) (pa_cons (pe_tup (pa_cons (pe_callB (id := "len") (kx_len (K := K) rfl) (by rfl) T.z_len (by decide +kernel) (pa_cons (pv 1) (pa_nil))) (pa_cons pe_int (pa_nil)))) (pa_cons (pe_tup (pa_cons (pe_un un_neg pe_int) (pa_cons pe_int (pa_nil)))) (pa_cons (pe_tup (pa_cons pe_int (pa_cons (pe_un un_neg pe_int) (pa_nil)))) (pa_cons (pe_tup (pa_cons pe_bl (pa_cons pe_int (pa_nil)))) (pa_cons (pe_tup (pa_cons pe_int (pa_cons pe_bl (pa_nil)))) (pa_cons (pe_tup (pa_cons pe_non (pa_cons pe_int (pa_nil)))) (pa_cons (pe_tup (pa_cons pe_str (pa_cons pe_int (pa_nil)))) (pa_cons pe_non (pa_cons pe_int (pa_nil)))))))))))))))
      (pss_cons (ps_set (i := 10) sc_law_changed.nd rfl (Or.inl rfl) (pe_op op_cat (pv 10) (pe_lst (pa_cons (pe_tup (pa_cons pe_int (pa_cons pe_non (pa_nil)))) (pa_cons (pe_tup (pa_cons pe_int (pa_cons pe_str (pa_nil)))) (pa_cons (pe_tup (pa_cons (pe_lst (pa_cons pe_int (pa_nil))) (pa_cons pe_int (pa_nil)))) (pa_nil)))))))
      (pss_cons (ps_for PassesOwn.never rfl (kpi_list (K := K) rfl (pv 10)) (pg_name (i := 11) sc_law_changed.nd rfl (Or.inl rfl))
      (pss_cons (ps_set (i := 12) sc_law_changed.nd rfl (Or.inl rfl) (pe_op op_cat (pe_op op_cat (pe_slice (ks_list (K := K) rfl) (pv 3) po_none (po_some (pv 9))) (pe_lst (pa_cons (pv 11) (pa_nil)))) (pe_slice (ks_list (K := K) rfl) (pv 3) (po_some (pv 9)) po_none)))
      (pss_cons (ps_set (i := 13) sc_law_changed.nd rfl (Or.inl rfl) (pe_callTy (T := "tuple") (kx_tuple (K := K) rfl) (by rfl) T.z_tuple (by decide +kernel) (pa_cons (pv 12) (pa_nil))))
      (pss_one (ps_if (PW.pt (pw_or (pt_not (pt_val (pe_call (ok_law_refused (P := P) T) (hr.mono (by decide)) rfl T.m_law_refused T.k_law_refused T.b_law_refused .nil pass0 (pa_cons pe_int (pa_cons (pv 0) (pa_cons (pe_lst (pa_cons (pv 12) (pa_nil))) (pa_cons pe_int (pa_cons (pv 12) (pa_nil))))))))) (pw_or1 (pt_not (pt_val (pe_call (ok_law_refused (P := P) T) (hr.mono (by decide)) rfl T.m_law_refused T.k_law_refused T.b_law_refused .nil pass0 (pa_cons pe_int (pa_cons (pv 0) (pa_cons (pe_lst (pa_cons (pv 13) (pa_nil))) (pa_cons pe_int (pa_cons (pv 13) (pa_nil))))))))))))
      (pss_one (ps_ret pe_bl)) pss_nil)))))
      (pss_cons (ps_for PassesOwn.never rfl (kpi_list (K := K) rfl (pv 3)) (kg_tup (K := K) (n := 2) rfl rfl (pgs_cons (pg_name (i := 5) sc_law_changed.nd rfl (Or.inl rfl)) (pgs_cons (pg_name (i := 6) sc_law_changed.nd rfl (Or.inl rfl)) pgs_nil)))
      (pss_cons (ps_set (i := 12) sc_law_changed.nd rfl (Or.inl rfl) (pe_op op_cat (pe_op op_cat (pe_slice (ks_list (K := K) rfl) (pv 3) po_none (po_some (pv 9))) (pe_lst (pa_cons (pe_tup (pa_cons (pv 5) (pa_cons (pe_op op_add (pv 6) pe_int) (pa_nil)))) (pa_nil)))) (pe_slice (ks_list (K := K) rfl) (pv 3) (po_some (pv 9)) po_none)))
      (pss_cons (ps_set (i := 14) sc_law_changed.nd rfl (Or.inl rfl) (pe_op op_cat (pv 3) (pv 3)))
      (pss_one (ps_if (PW.pt (pw_or (pt_not (pt_val (pe_call (ok_law_refused (P := P) T) (hr.mono (by decide)) rfl T.m_law_refused T.k_law_refused T.b_law_refused .nil pass0 (pa_cons pe_int (pa_cons (pv 0) (pa_cons (pe_lst (pa_cons (pv 12) (pa_nil))) (pa_cons pe_int (pa_cons (pv 12) (pa_nil))))))))) (pw_or1 (pt_not (pt_val (pe_call (ok_law_refused (P := P) T) (hr.mono (by decide)) rfl T.m_law_refused T.k_law_refused T.b_law_refused .nil pass0 (pa_cons pe_int (pa_cons (pv 0) (pa_cons (pe_lst (pa_cons (pv 14) (pa_nil))) (pa_cons pe_int (pa_cons (pv 14) (pa_nil))))))))))))
      (pss_one (ps_ret pe_bl)) pss_nil)))))
      (pss_one (ps_ret (pe_callB (id := "all") (kx_all (K := K) rfl rfl) (by rfl) T.z_all (by decide +kernel) (pa_cons (pe_lc (own := [("thing", 11)]) (g := gName 11) (tt := tYes) rfl sc_law_changed.nd (kpi_list (K := K) rfl (pe_lst (pa_cons pe_non (pa_cons pe_int (pa_cons pe_str (pa_cons pe_dnewK (pa_cons (pe_disp (pps_cons pe_int pe_int pps_nil) (by rfl) (by rfl) (fun z => by cases z) (by decide)) (pa_cons pe_bl (pa_cons (pv 0) (pa_nil)))))))))) (blkOk_by (own := [("thing", 11)]) (N := ["counts", "row", "pool", "some", "due", "member", "number", "handed", "told", "at", "bad", "thing", "spoilt", "flat", "twice"]) (sc := defScope s_law_changed) (by decide +kernel)) (fun _ _ _ _ _ => (pg_name (i := 11) sc_law_changed.nd rfl (Or.inl rfl))) (fun _ _ _ _ _ => pts_nil) (fun _ _ _ _ _ => (pe_call (ok_law_refused (P := P) T) (hr.mono (by decide)) rfl T.m_law_refused T.k_law_refused T.b_law_refused .nil pass0 (pa_cons pe_int (pa_cons (pv 0) (pa_cons (pe_lst (pa_cons (pv 11) (pa_nil))) (pa_cons pe_int (pa_cons (pv 11) (pa_nil))))))))) (pa_nil)))))))))))))))), ?_⟩
    rcases h with ⟨p, dx, t, a, q, ms, n, rfl, hp, ht, ha, hq, hn, haq, h2, h5, hm, k⟩
    have npq : p ≠ q := fun e => by rw [e, hq] at hp; cases hp
    have ntq : t ≠ q := fun e => by rw [e, hq] at ht; cases ht
    walk_at "rdn"
    intro l xs cs z H1 f1 f2 hz hl0 nlq e1 hP hc hd hcl
    have fp := f1 _ _ npq hp
    have ft := f1 _ _ ntq ht
    have fa := f1 _ _ haq ha
    have hxl := hP.len
    walk_at "rdn"
    intro D hD
    walk_at "rdn"
    refine for_list (K := K) (a := l) (xs := xs) (fun i σ H9 => (∃ u5 u6 u7 u8 u9 u10 u11 u12 u13 u14 : Option V, σ = [some (.ref p), some (.ref a), some (.ref q), some (.ref l), some (.ref D), u5, u6, u7, u8, u9, u10, u11, u12, u13, u14]) ∧ Same H1 H9 ∧ H9 D = some (.lst ((applyC ms (cs.take i)).map V.int))) ⟨⟨none, none, none, none, none, none, none, none, none, none, rfl⟩, Same.new hD, by rw [upd_same]; rfl⟩ (fun i σ H9 _ h => SqL.of (h.2.1 _ _ e1)) ?_ ?_
    · rintro i x σ H9 hx ⟨⟨u5, u6, u7, u8, u9, u10, u11, u12, u13, u14, rfl⟩, s9, g1⟩
      obtain ⟨c, hci, tt, rfl, ntt, ht9⟩ := hP.get hx
      have ht9 := s9 _ _ ht9
      obtain ⟨c1, c2, c3⟩ := hc c (List.mem_of_getElem? hci)
      obtain ⟨j, hj⟩ := Int.eq_ofNat_of_zero_le c1
      have e9 := applyC_snoc (ms := ms) hci
      rw [hj, Int.toNat_natCast] at e9
      rw [hj] at ht9
      walk_at "rdn"
      refine q_setL (j := j) (by walk_at "lk") (ixN_at (by rw [List.length_map, applyC_len]; omega)) ?_
      walk_at "rdn"
      exact ⟨⟨_, _, _, _, _, _, _, _, _, _, rfl⟩, s9.snew hD, by rw [upd_same, e9, List.map_set]⟩
    · rintro σ H2 ⟨⟨u5, u6, u7, u8, u9, u10, u11, u12, u13, u14, rfl⟩, s2, g1⟩
      rw [List.take_of_length_le (by omega)] at g1
      have hP2 := PairAt.all (PairD.all hP) s2
      have e2 := s2 _ _ e1
      have fp2 := s2 _ _ fp
      have ft2 := s2 _ _ ft
      have fa2 := s2 _ _ fa
      walk_at "rdn"
      intro D2 hD2
      have h22 : upd H2 D2 (.lst xs) D2 = some (.lst xs) := upd_same
      have s3 : Same H2 (upd H2 D2 (.lst xs)) := Same.new hD2
      walk_at "rdn"
      refine r_Counts_changed_1 rfl (hp := s3 _ _ fp2) (ht := s3 _ _ ft2) (ha := .inl h22) (hs := PairAt.all hP2 s3) (hc := hc) (hd := hd) (hl := by omega) (h2 := h2) (h5 := h5) (hm := hm) ?_
      intro r1 dz1 v1 H3 s4 g2 g3
      walk_at "rdn"
      intro tp1 htp1
      walk_at "rdn"
      have s5 : Same H2 (upd H3 tp1 (.tup ((applyC ms cs).map V.int))) := s3.trans (s4.trans (Same.new htp1))
      refine q_neLP (cs := cs) (ds := cs) (by walk_at "sq") (SqL.of (s5 _ _ e2)) (PairAt.all hP2 s5) (PairAt.all hP2 s5) ?_
      walk_at "rdn"
      intro tp2 htp2
      walk_at "rdn"
      have s6 : Same H2 (upd (upd H3 tp1 (.tup ((applyC ms cs).map V.int))) tp2 (.tup (ms.map V.int))) := s5.trans (Same.new htp2)
      have f4 := s6
      have fp4 := s6 _ _ fp2
      have ft4 := s6 _ _ ft2
      have fa4 := s6 _ _ fa2
      have e4 := s6 _ _ e2
      have hz4 : 0 ≤ z / (↑xs.length + 1) := Int.ediv_nonneg hz (by omega)
      have hm0 : 0 ≤ z % (↑xs.length + 1) := Int.emod_nonneg _ (by omega)
      have hm1 : z % (↑xs.length + 1) < ↑xs.length + 1 := Int.emod_lt_of_pos _ (by omega)
      have hP4 : All2 (PairD q (upd (upd H3 tp1 (.tup ((applyC ms cs).map V.int))) tp2 (.tup (ms.map V.int)))) xs cs := hP.mono fun x c h => (h.same s2).same s6
      have F4 : Fr1 q H (upd (upd H3 tp1 (.tup ((applyC ms cs).map V.int))) tp2 (.tup (ms.map V.int))) := fun b o nb e => s6 _ _ (s2 _ _ (f1 _ _ nb e))
      generalize upd (upd H3 tp1 (.tup ((applyC ms cs).map V.int))) tp2 (.tup (ms.map V.int)) = H4 at fp4 ft4 fa4 e4 hP4 F4 ⊢
      clear s6 f4 s5 htp2 htp1 s4 g2 g3 s3 h22 hD2 s2 g1 hP2 e2 fp2 ft2 fa2 hD fp ft fa e1 hP
      obtain ⟨ma, hma⟩ := Int.eq_ofNat_of_zero_le hm0
      rw [hma] at hm1 ⊢
      generalize z / (↑xs.length + 1) = z4 at hz4 ⊢
      have F5 : Fr1 q H (upd H4 q (.lst [.int z4])) := fun b o nb e => (upd_ne nb).trans (F4 _ _ nb e)
      have fq5 : upd H4 q (.lst [.int z4]) q = some (.lst [.int z4]) := upd_same
      have fp5 : upd H4 q (.lst [.int z4]) p = _ := (upd_ne npq).trans fp4
      have ft5 : upd H4 q (.lst [.int z4]) t = _ := (upd_ne ntq).trans ft4
      have fa5 : upd H4 q (.lst [.int z4]) a = _ := (upd_ne haq).trans fa4
      have e5 : upd H4 q (.lst [.int z4]) l = _ := (upd_ne nlq).trans e4
      have hP5 : All2 (PairAt (upd H4 q (.lst [.int z4]))) xs cs := hP4.mono fun x c h => by
        obtain ⟨tt, ex, n1, h1⟩ := h
        exact ⟨tt, ex, (upd_ne n1).trans h1⟩
      generalize upd H4 q (.lst [.int z4]) = H5 at F5 fq5 fp5 ft5 fa5 e5 hP5 ⊢
      clear fp4 ft4 fa4 e4 hP4 F4
      intro b1 hb1
      have s1 : Same H5 (upd H5 b1 (.lst [.int 0, .int 1])) := Same.new hb1
      have e1 : upd H5 b1 (.lst [.int 0, .int 1]) b1 = some (.lst [.int 0, .int 1]) := upd_same
      generalize upd H5 b1 (.lst [.int 0, .int 1]) = G1 at s1 e1 ⊢
      clear hb1
      walk_at "rdn"
      intro b2 hb2
      have s2 : Same G1 (upd G1 b2 (.tup [.int 0])) := Same.new hb2
      have e2 : upd G1 b2 (.tup [.int 0]) b2 = some (.tup [.int 0]) := upd_same
      generalize upd G1 b2 (.tup [.int 0]) = G2 at s2 e2 ⊢
      clear hb2
      walk_at "rdn"
      intro b3 hb3
      have s3 : Same G2 (upd G2 b3 (.tup [.int 0, .int 1, .int 2])) := Same.new hb3
      have e3 : upd G2 b3 (.tup [.int 0, .int 1, .int 2]) b3 = some (.tup [.int 0, .int 1, .int 2]) := upd_same
      generalize upd G2 b3 (.tup [.int 0, .int 1, .int 2]) = G3 at s3 e3 ⊢
      clear hb3
      walk_at "rdn"
      intro b4 hb4
      have s4 : Same G3 (upd G3 b4 (.tup [.int ↑(List.map V.int ms).length, .int 1])) := Same.new hb4
      have e4 : upd G3 b4 (.tup [.int ↑(List.map V.int ms).length, .int 1]) b4 = some (.tup [.int ↑(List.map V.int ms).length, .int 1]) := upd_same
      generalize upd G3 b4 (.tup [.int ↑(List.map V.int ms).length, .int 1]) = G4 at s4 e4 ⊢
      clear hb4
      walk_at "rdn"
      intro b5 hb5
      have s5 : Same G4 (upd G4 b5 (.tup [.int (-1), .int 1])) := Same.new hb5
      have e5b : upd G4 b5 (.tup [.int (-1), .int 1]) b5 = some (.tup [.int (-1), .int 1]) := upd_same
      generalize upd G4 b5 (.tup [.int (-1), .int 1]) = G5 at s5 e5b ⊢
      clear hb5
      walk_at "rdn"
      intro b6 hb6
      have s6 : Same G5 (upd G5 b6 (.tup [.int 0, .int (-1)])) := Same.new hb6
      have e6 : upd G5 b6 (.tup [.int 0, .int (-1)]) b6 = some (.tup [.int 0, .int (-1)]) := upd_same
      generalize upd G5 b6 (.tup [.int 0, .int (-1)]) = G6 at s6 e6 ⊢
      clear hb6
      walk_at "rdn"
      intro b7 hb7
      have s7 : Same G6 (upd G6 b7 (.tup [.bl true, .int 1])) := Same.new hb7
      have e7 : upd G6 b7 (.tup [.bl true, .int 1]) b7 = some (.tup [.bl true, .int 1]) := upd_same
      generalize upd G6 b7 (.tup [.bl true, .int 1]) = G7 at s7 e7 ⊢
      clear hb7
      walk_at "rdn"
      intro b8 hb8
      have s8 : Same G7 (upd G7 b8 (.tup [.int 0, .bl true])) := Same.new hb8
      have e8 : upd G7 b8 (.tup [.int 0, .bl true]) b8 = some (.tup [.int 0, .bl true]) := upd_same
      generalize upd G7 b8 (.tup [.int 0, .bl true]) = G8 at s8 e8 ⊢
      clear hb8
      walk_at "rdn"
      intro b9 hb9
      have s9 : Same G8 (upd G8 b9 (.tup [.non, .int 1])) := Same.new hb9
      have e9 : upd G8 b9 (.tup [.non, .int 1]) b9 = some (.tup [.non, .int 1]) := upd_same
      generalize upd G8 b9 (.tup [.non, .int 1]) = G9 at s9 e9 ⊢
      clear hb9
      walk_at "rdn"
      intro b10 hb10
      have s10 : Same G9 (upd G9 b10 (.tup [.str (Str.ofString "0"), .int 1])) := Same.new hb10
      have e10 : upd G9 b10 (.tup [.str (Str.ofString "0"), .int 1]) b10 = some (.tup [.str (Str.ofString "0"), .int 1]) := upd_same
      generalize upd G9 b10 (.tup [.str (Str.ofString "0"), .int 1]) = G10 at s10 e10 ⊢
      clear hb10
      walk_at "rdn"
      intro b11 hb11
      have s11 : Same G10 (upd G10 b11 (.lst [.ref b1, .ref b2, .ref b3, .ref b4, .ref b5, .ref b6, .ref b7, .ref b8, .ref b9, .ref b10, .non, .int 7])) := Same.new hb11
      have e11 : upd G10 b11 (.lst [.ref b1, .ref b2, .ref b3, .ref b4, .ref b5, .ref b6, .ref b7, .ref b8, .ref b9, .ref b10, .non, .int 7]) b11 = some (.lst [.ref b1, .ref b2, .ref b3, .ref b4, .ref b5, .ref b6, .ref b7, .ref b8, .ref b9, .ref b10, .non, .int 7]) := upd_same
      generalize upd G10 b11 (.lst [.ref b1, .ref b2, .ref b3, .ref b4, .ref b5, .ref b6, .ref b7, .ref b8, .ref b9, .ref b10, .non, .int 7]) = G11 at s11 e11 ⊢
      clear hb11
      walk_at "rdn"
      intro b12 hb12
      have s12 : Same G11 (upd G11 b12 (.tup [.int 0, .non])) := Same.new hb12
      have e12 : upd G11 b12 (.tup [.int 0, .non]) b12 = some (.tup [.int 0, .non]) := upd_same
      generalize upd G11 b12 (.tup [.int 0, .non]) = G12 at s12 e12 ⊢
      clear hb12
      walk_at "rdn"
      intro b13 hb13
      have s13 : Same G12 (upd G12 b13 (.tup [.int 0, .str (Str.ofString "1")])) := Same.new hb13
      have e13 : upd G12 b13 (.tup [.int 0, .str (Str.ofString "1")]) b13 = some (.tup [.int 0, .str (Str.ofString "1")]) := upd_same
      generalize upd G12 b13 (.tup [.int 0, .str (Str.ofString "1")]) = G13 at s13 e13 ⊢
      clear hb13
      walk_at "rdn"
      intro b14 hb14
      have s14 : Same G13 (upd G13 b14 (.lst [.int 0])) := Same.new hb14
      have e14 : upd G13 b14 (.lst [.int 0]) b14 = some (.lst [.int 0]) := upd_same
      generalize upd G13 b14 (.lst [.int 0]) = G14 at s14 e14 ⊢
      clear hb14
      walk_at "rdn"
      intro b15 hb15
      have s15 : Same G14 (upd G14 b15 (.tup [.ref b14, .int 1])) := Same.new hb15
      have e15 : upd G14 b15 (.tup [.ref b14, .int 1]) b15 = some (.tup [.ref b14, .int 1]) := upd_same
      generalize upd G14 b15 (.tup [.ref b14, .int 1]) = G15 at s15 e15 ⊢
      clear hb15
      walk_at "rdn"
      intro b16 hb16
      have s16 : Same G15 (upd G15 b16 (.lst [.ref b12, .ref b13, .ref b15])) := Same.new hb16
      have e16 : upd G15 b16 (.lst [.ref b12, .ref b13, .ref b15]) b16 = some (.lst [.ref b12, .ref b13, .ref b15]) := upd_same
      generalize upd G15 b16 (.lst [.ref b12, .ref b13, .ref b15]) = G16 at s16 e16 ⊢
      clear hb16
      walk_at "rdn"
      intro b17 hb17
      have s17 : Same G16 (upd G16 b17 (.lst ([.ref b1, .ref b2, .ref b3, .ref b4, .ref b5, .ref b6, .ref b7, .ref b8, .ref b9, .ref b10, .non, .int 7] ++ [.ref b12, .ref b13, .ref b15]))) := Same.new hb17
      have e17 : upd G16 b17 (.lst ([.ref b1, .ref b2, .ref b3, .ref b4, .ref b5, .ref b6, .ref b7, .ref b8, .ref b9, .ref b10, .non, .int 7] ++ [.ref b12, .ref b13, .ref b15])) b17 = some (.lst ([.ref b1, .ref b2, .ref b3, .ref b4, .ref b5, .ref b6, .ref b7, .ref b8, .ref b9, .ref b10, .non, .int 7] ++ [.ref b12, .ref b13, .ref b15])) := upd_same
      generalize upd G16 b17 (.lst ([.ref b1, .ref b2, .ref b3, .ref b4, .ref b5, .ref b6, .ref b7, .ref b8, .ref b9, .ref b10, .non, .int 7] ++ [.ref b12, .ref b13, .ref b15])) = G17 at s17 e17 ⊢
      clear hb17
      walk_at "rdn"
      have t17 : Same G17 G17 := Same.refl _
      have t16 := s17.trans t17
      have t15 := s16.trans t16
      have t14 := s15.trans t15
      have t13 := s14.trans t14
      have t12 := s13.trans t13
      have t11 := s12.trans t12
      have t10 := s11.trans t11
      have t9 := s10.trans t10
      have t8 := s9.trans t9
      have t7 := s8.trans t8
      have t6 := s7.trans t7
      have t5 := s6.trans t6
      have t4 := s5.trans t5
      have t3 := s4.trans t4
      have t2 := s3.trans t3
      have t1 := s2.trans t2
      have S5 := s1.trans t1
      have q1 := t1 _ _ e1
      have q2 := t2 _ _ e2
      have q3 := t3 _ _ e3
      have q4 := t4 _ _ e4
      have q5 := t5 _ _ e5b
      have q6 := t6 _ _ e6
      have q7 := t7 _ _ e7
      have q8 := t8 _ _ e8
      have q9 := t9 _ _ e9
      have q10 := t10 _ _ e10
      have q11 := t11 _ _ e11
      have q12 := t12 _ _ e12
      have q13 := t13 _ _ e13
      have q14 := t14 _ _ e14
      have q15 := t15 _ _ e15
      have q16 := t16 _ _ e16
      clear s1 s2 s3 s4 s5 s6 s7 s8 s9 s10 s11 s12 s13 s14 s15 s16 s17 t1 t2 t3 t4 t5 t6 t7 t8 t9 t10 t11 t12 t13 t14 t15 t16 t17 e1 e2 e3 e4 e5b e6 e7 e8 e9 e10 e11 e12 e13 e14 e15 e16
      obtain ⟨TH, hTH⟩ : ∃ l : List V, l = [V.ref b1, V.ref b2, V.ref b3, V.ref b4, V.ref b5, V.ref b6, V.ref b7, V.ref b8, V.ref b9, V.ref b10, V.non, V.int 7, V.ref b12, V.ref b13, V.ref b15] := ⟨_, rfl⟩
      have e17 : G17 b17 = some (.lst TH) := by rw [hTH]; exact e17
      have hT : ∀ x ∈ TH, BadC K G17 (ms.length : Nat) x := by
        intro x hx
        rw [hTH] at hx
        simp only [List.mem_cons, List.not_mem_nil, or_false] at hx
        rcases hx with rfl | rfl | rfl | rfl | rfl | rfl | rfl | rfl | rfl | rfl | rfl | rfl | rfl | rfl | rfl
        · exact .inl ⟨_, .base (.lst q1), by walk_at "kit"⟩
        · exact .inr (.inl ⟨b2, _, rfl, q2, by simp, by simp⟩)
        · exact .inr (.inl ⟨b3, _, rfl, q3, by simp, by simp⟩)
        · exact .inr (.inr (.inl ⟨b4, _, _, rfl, q4, .inl ⟨_, rfl, by rw [List.length_map]; omega⟩⟩))
        · exact .inr (.inr (.inl ⟨b5, _, _, rfl, q5, .inl ⟨_, rfl, by omega⟩⟩))
        · exact .inr (.inr (.inr ⟨b6, 0, _, rfl, q6, by omega, by omega, .inl ⟨_, rfl, by omega⟩⟩))
        · exact .inr (.inr (.inl ⟨b7, _, _, rfl, q7, .inr (.inl ⟨_, rfl⟩)⟩))
        · exact .inr (.inr (.inr ⟨b8, 0, _, rfl, q8, by omega, by omega, .inr (.inl ⟨_, rfl⟩)⟩))
        · exact .inr (.inr (.inl ⟨b9, _, _, rfl, q9, .inr (.inr ⟨_, .base .non, by walk_at "kit"⟩)⟩))
        · exact .inr (.inr (.inl ⟨b10, _, _, rfl, q10, .inr (.inr ⟨_, .base (.str _), by walk_at "kit"⟩)⟩))
        · exact .inl ⟨_, .base .non, by walk_at "kit"⟩
        · exact .inl ⟨_, .base (.int _), by walk_at "kit"⟩
        · exact .inr (.inr (.inr ⟨b12, 0, _, rfl, q12, by omega, by omega, .inr (.inr ⟨_, .base .non, by walk_at "kit"⟩)⟩))
        · exact .inr (.inr (.inr ⟨b13, 0, _, rfl, q13, by omega, by omega, .inr (.inr ⟨_, .base (.str _), by walk_at "kit"⟩)⟩))
        · exact .inr (.inr (.inl ⟨b15, _, _, rfl, q15, .inr (.inr ⟨_, .base (.lst q14), by walk_at "kit"⟩)⟩))
      have F6 : Fr1 q H G17 := fun b o nb e => S5 _ _ (F5 _ _ nb e)
      have fq6 := S5 _ _ fq5
      have fp6 := S5 _ _ fp5
      have ft6 := S5 _ _ ft5
      have fa6 := S5 _ _ fa5
      have e6l := S5 _ _ e5
      have hP6 := PairAt.all hP5 S5
      clear hTH q1 q2 q3 q4 q5 q6 q7 q8 q9 q10 q11 q12 q13 q14 q15 q16 S5 F5 fq5 fp5 ft5 fa5 e5 hP5
      generalize G17 = H6 at F6 fq6 fp6 ft6 fa6 e6l hP6 hT e17 ⊢
      refine for_list (K := K) (a := b17) (xs := TH) (fun i σ H' => (∃ u5 u6 u11 u12 u13 u14 : Option V, σ = [some (.ref p), some (.ref a), some (.ref q), some (.ref l), some (.ref D), u5, u6, some (.ref D2), some (.ref r1), some (.int ma), some (.ref b17), u11, u12, u13, u14]) ∧ Same H6 H') ⟨⟨_, _, _, _, _, _, rfl⟩, Same.refl _⟩ (fun i σ H' _ h => SqL.of (h.2 _ _ e17)) ?_ ?_
      · rintro i x σ H7 hx ⟨⟨u5, u6, u11, u12, u13, u14, rfl⟩, s7⟩
        have bx := (hT x (List.mem_of_getElem? hx)).same s7
        have p7 := s7 _ _ fp6
        have t7 := s7 _ _ ft6
        have l7 := s7 _ _ e6l
        have P7 := PairAt.all hP6 s7
        walk_at "rdn"
        rw [cut_pre (by omega)]
        intro c1 hc1
        have sa : Same H7 (upd H7 c1 (.lst (xs.take ma))) := Same.new hc1
        have ea : upd H7 c1 (.lst (xs.take ma)) c1 = some (.lst (xs.take ma)) := upd_same
        have nc1 := hc1
        generalize upd H7 c1 (.lst (xs.take ma)) = J1 at sa ea ⊢
        walk_at "rdn"
        intro c2 hc2
        have sb : Same J1 (upd J1 c2 (.lst [x])) := Same.new hc2
        have eb : upd J1 c2 (.lst [x]) c2 = some (.lst [x]) := upd_same
        have nc2 := hc2
        generalize upd J1 c2 (.lst [x]) = J2 at sb eb ⊢
        have ea := sb _ _ ea
        walk_at "rdn"
        intro c3 hc3
        have sc : Same J2 (upd J2 c3 (.lst (xs.take ma ++ [x]))) := Same.new hc3
        have ec : upd J2 c3 (.lst (xs.take ma ++ [x])) c3 = some (.lst (xs.take ma ++ [x])) := upd_same
        have nc3 := hc3
        generalize upd J2 c3 (.lst (xs.take ma ++ [x])) = J3 at sc ec ⊢
        have l3 := sc _ _ (sb _ _ (sa _ _ l7))
        walk_at "rdn"
        rw [cut_suf (by omega)]
        intro c4 hc4
        have sd : Same J3 (upd J3 c4 (.lst (xs.drop ma))) := Same.new hc4
        have ed : upd J3 c4 (.lst (xs.drop ma)) c4 = some (.lst (xs.drop ma)) := upd_same
        have nc4 := hc4
        generalize upd J3 c4 (.lst (xs.drop ma)) = J4 at sd ed ⊢
        have ec := sd _ _ ec
        walk_at "rdn"
        intro c5 hc5
        have se : Same J4 (upd J4 c5 (.lst (xs.take ma ++ [x] ++ xs.drop ma))) := Same.new hc5
        have ee : upd J4 c5 (.lst (xs.take ma ++ [x] ++ xs.drop ma)) c5 = some (.lst (xs.take ma ++ [x] ++ xs.drop ma)) := upd_same
        have nc5 := hc5
        generalize upd J4 c5 (.lst (xs.take ma ++ [x] ++ xs.drop ma)) = J5 at se ee ⊢
        walk_at "rdn"
        intro c6 hc6
        have sf : Same J5 (upd J5 c6 (.tup (xs.take ma ++ [x] ++ xs.drop ma))) := Same.new hc6
        have ef : upd J5 c6 (.tup (xs.take ma ++ [x] ++ xs.drop ma)) c6 = some (.tup (xs.take ma ++ [x] ++ xs.drop ma)) := upd_same
        have nc6 := hc6
        generalize upd J5 c6 (.tup (xs.take ma ++ [x] ++ xs.drop ma)) = J6 at sf ef ⊢
        walk_at "rdn"
        intro c7 hc7
        have sg : Same J6 (upd J6 c7 (.lst [.ref c5])) := Same.new hc7
        have eg : upd J6 c7 (.lst [.ref c5]) c7 = some (.lst [.ref c5]) := upd_same
        have nc7 := hc7
        generalize upd J6 c7 (.lst [.ref c5]) = J7 at sg eg ⊢
        have S4 : Same H7 J4 := sa.trans (sb.trans (sc.trans sd))
        have S57 : Same J4 J7 := se.trans (sf.trans sg)
        have S7 := S4.trans S57
        have n5 : H7 c5 = none := Same.free S4 nc5
        have n57 : c5 ≠ c7 := fun e => by rw [e] at ee; have z := sf _ _ ee; rw [nc7] at z; cases z
        have e57 := sg _ _ (sf _ _ ee)
        have e67 := sg _ _ ef
        have hIC := ((ItC.good (K := K) (PairAt.all P7 S7) hc).take ma).app (.cons (c := none) (.inr ⟨rfl, bx.same S7⟩) .nil) |>.app ((ItC.good (K := K) (PairAt.all P7 S7) hc).drop ma)
        have hg0 : goC [] ((cs.map some).take ma ++ [none] ++ (cs.map some).drop ma) = false := goC_none (by simp)
        have hl9 : (xs.take ma ++ [x] ++ xs.drop ma).length ≤ 2000 := by simp only [List.length_append, List.length_take, List.length_drop, List.length_singleton]; omega
        walk_at "rdn"
        refine r_law_refused rfl (a := 0) (x := .ref c5) (hp := S7 _ _ p7) (ht := S7 _ _ t7) (hl := eg) (hr := .inr (.inr (.inr (.inr (.inl ⟨rfl, rfl, rfl, rfl, c5, _, _, rfl, .inl e57, hIC, hg0, hl9⟩))))) (h5 := h5) (hx := fun e => n57 (V.ref.inj e)) (hz := .inl ⟨_, rfl⟩) ?_
        intro H8 f8 _
        have S8 : Same H7 H8 := Same.fr1 S7 f8.fr1 n5
        have n65 : c6 ≠ c5 := fun e => by rw [e, e57] at e67; cases e67
        have e68 := f8.fr1 _ _ n65 e67
        have hIC := ((ItC.good (K := K) (PairAt.all P7 S8) hc).take ma).app (.cons (c := none) (.inr ⟨rfl, bx.same S8⟩) .nil) |>.app ((ItC.good (K := K) (PairAt.all P7 S8) hc).drop ma)
        have p8 := S8 _ _ p7
        have t8 := S8 _ _ t7
        clear S57 S4 sa sb sc sd se sf sg ea eb ec ed ee ef eg l3 S7 e57 e67 f8
        walk_at "rdn"
        intro c8 hc8
        have s9 := Same.new (o := .lst [.ref c6]) hc8
        have n68 : c6 ≠ c8 := fun e => by rw [e, hc8] at e68; cases e68
        walk_at "rdn"
        refine r_law_refused rfl (a := 0) (x := .ref c6) (hp := s9 _ _ p8) (ht := s9 _ _ t8) (hl := upd_same) (hr := .inr (.inr (.inr (.inr (.inl ⟨rfl, rfl, rfl, rfl, c6, _, _, rfl, .inr (s9 _ _ e68), hIC.mono fun x c z => z.same s9, hg0, hl9⟩))))) (h5 := h5) (hx := fun e => n68 (V.ref.inj e)) (hz := .inl ⟨_, rfl⟩) ?_
        intro H9 f9 _
        have S9 : Same H7 H9 := S8.trans (s9.trans (f9.noL (.inr ⟨c6, _, rfl, s9 _ _ e68, fun xs z => by cases z⟩)))
        walk_at "rdn"
        exact ⟨⟨_, _, _, _, _, _, rfl⟩, s7.trans S9⟩
      · rintro σ H7 ⟨⟨u5, u6, u11, u12, u13, u14, rfl⟩, s7⟩
        walk_at "rdn"
        have l7 := s7 _ _ e6l
        have P7 := PairAt.all hP6 s7
        have p7 := s7 _ _ fp6
        have t7 := s7 _ _ ft6
        have F7 : Fr1 q H H7 := fun b o nb e => s7 _ _ (F6 _ _ nb e)
        have fq7 := s7 _ _ fq6
        clear s7 hT e17 F6 fq6 fp6 ft6 fa6 e6l hP6
        refine for_list (K := K) (a := l) (xs := xs) (fun i σ H' => (∃ u5 u6 u11 u12 u13 u14 : Option V, σ = [some (.ref p), some (.ref a), some (.ref q), some (.ref l), some (.ref D), u5, u6, some (.ref D2), some (.ref r1), some (.int ma), some (.ref b17), u11, u12, u13, u14]) ∧ Same H7 H') ⟨⟨_, _, _, _, _, _, rfl⟩, Same.refl _⟩ (fun i σ H' _ h => SqL.of (h.2 _ _ l7)) ?_ ?_
        · rintro i x σ H8 hx ⟨⟨u5, u6, u11, u12, u13, u14, rfl⟩, s8⟩
          have P8 := PairAt.all P7 s8
          obtain ⟨c, hci, tt, rfl, ht8⟩ := P8.get hx
          have hcm := List.mem_of_getElem? hci
          obtain ⟨c1', c2', c3'⟩ := hc c hcm
          have p8 := s8 _ _ p7
          have t8 := s8 _ _ t7
          have l8 := s8 _ _ l7
          walk_at "rdn"
          rw [cut_pre (by omega)]
          intro c1 hc1
          have sa : Same H8 (upd H8 c1 (.lst (xs.take ma))) := Same.new hc1
          have ea : upd H8 c1 (.lst (xs.take ma)) c1 = some (.lst (xs.take ma)) := upd_same
          have nc1 := hc1
          generalize upd H8 c1 (.lst (xs.take ma)) = J1 at sa ea ⊢
          walk_at "rdn"
          intro ct hct
          have st : Same J1 (upd J1 ct (.tup [.int c.1, .int (c.2 + 1)])) := Same.new hct
          have et : upd J1 ct (.tup [.int c.1, .int (c.2 + 1)]) ct = some (.tup [.int c.1, .int (c.2 + 1)]) := upd_same
          have nct := hct
          generalize upd J1 ct (.tup [.int c.1, .int (c.2 + 1)]) = J1t at st et ⊢
          have ea := st _ _ ea
          walk_at "rdn"
          intro c2 hc2
          have sb : Same J1t (upd J1t c2 (.lst [.ref ct])) := Same.new hc2
          have eb : upd J1t c2 (.lst [.ref ct]) c2 = some (.lst [.ref ct]) := upd_same
          have nc2 := hc2
          generalize upd J1t c2 (.lst [.ref ct]) = J2 at sb eb ⊢
          have ea := sb _ _ ea
          have et := sb _ _ et
          walk_at "rdn"
          intro c3 hc3
          have sc : Same J2 (upd J2 c3 (.lst (xs.take ma ++ [.ref ct]))) := Same.new hc3
          have ec : upd J2 c3 (.lst (xs.take ma ++ [.ref ct])) c3 = some (.lst (xs.take ma ++ [.ref ct])) := upd_same
          have nc3 := hc3
          generalize upd J2 c3 (.lst (xs.take ma ++ [.ref ct])) = J3 at sc ec ⊢
          have l3 := sc _ _ (sb _ _ (st _ _ (sa _ _ l8)))
          have et := sc _ _ et
          walk_at "rdn"
          rw [cut_suf (by omega)]
          intro c4 hc4
          have sd : Same J3 (upd J3 c4 (.lst (xs.drop ma))) := Same.new hc4
          have ed : upd J3 c4 (.lst (xs.drop ma)) c4 = some (.lst (xs.drop ma)) := upd_same
          have nc4 := hc4
          generalize upd J3 c4 (.lst (xs.drop ma)) = J4 at sd ed ⊢
          have ec := sd _ _ ec
          have et := sd _ _ et
          have l4 := sd _ _ l3
          walk_at "rdn"
          intro c5 hc5
          have se : Same J4 (upd J4 c5 (.lst (xs.take ma ++ [.ref ct] ++ xs.drop ma))) := Same.new hc5
          have ee : upd J4 c5 (.lst (xs.take ma ++ [.ref ct] ++ xs.drop ma)) c5 = some (.lst (xs.take ma ++ [.ref ct] ++ xs.drop ma)) := upd_same
          have nc5 := hc5
          generalize upd J4 c5 (.lst (xs.take ma ++ [.ref ct] ++ xs.drop ma)) = J5 at se ee ⊢
          have et := se _ _ et
          have l5 := se _ _ l4
          walk_at "rdn"
          intro c6 hc6
          have sf : Same J5 (upd J5 c6 (.lst (xs ++ xs))) := Same.new hc6
          have ef : upd J5 c6 (.lst (xs ++ xs)) c6 = some (.lst (xs ++ xs)) := upd_same
          have nc6 := hc6
          generalize upd J5 c6 (.lst (xs ++ xs)) = J6 at sf ef ⊢
          have et := sf _ _ et
          walk_at "rdn"
          intro c7 hc7
          have sg : Same J6 (upd J6 c7 (.lst [.ref c5])) := Same.new hc7
          have eg : upd J6 c7 (.lst [.ref c5]) c7 = some (.lst [.ref c5]) := upd_same
          have nc7 := hc7
          generalize upd J6 c7 (.lst [.ref c5]) = J7 at sg eg ⊢
          have et := sg _ _ et
          have S4 : Same H8 J4 := sa.trans (st.trans (sb.trans (sc.trans sd)))
          have S57 : Same J4 J7 := se.trans (sf.trans sg)
          have S7 := S4.trans S57
          have n5 : H8 c5 = none := Same.free S4 nc5
          have n6 : H8 c6 = none := Same.free (S4.trans se) nc6
          have n57 : c5 ≠ c7 := fun e => by rw [e] at ee; have z := sf _ _ ee; rw [nc7] at z; cases z
          have n56 : c6 ≠ c5 := fun e => by rw [← e, nc6] at ee; cases ee
          have e57 := sg _ _ (sf _ _ ee)
          have e67 := sg _ _ ef
          have hIC := ((ItC.good (K := K) (PairAt.all P8 S7) hc).take ma).app (.cons (c := some (c.1, c.2 + 1)) (.inl ⟨(c.1, c.2 + 1), ⟨ct, rfl, et⟩, c1', c2', by show 0 ≤ c.2 + 1; omega, rfl⟩) .nil) |>.app ((ItC.good (K := K) (PairAt.all P8 S7) hc).drop ma)
          have hg0 : goC [] ((cs.map some).take ma ++ [some (c.1, c.2 + 1)] ++ (cs.map some).drop ma) = false := by
            rw [← List.map_take, ← List.map_drop]
            exact goC_mid hcm rfl
          have hl9 : (xs.take ma ++ [V.ref ct] ++ xs.drop ma).length ≤ 2000 := by simp only [List.length_append, List.length_take, List.length_drop, List.length_singleton]; omega
          have hl10 : (xs ++ xs).length ≤ 2000 := by simp only [List.length_append]; omega
          walk_at "rdn"
          refine r_law_refused rfl (a := 0) (x := .ref c5) (hp := S7 _ _ p8) (ht := S7 _ _ t8) (hl := eg) (hr := .inr (.inr (.inr (.inr (.inl ⟨rfl, rfl, rfl, rfl, c5, _, _, rfl, .inl e57, hIC, hg0, hl9⟩))))) (h5 := h5) (hx := fun e => n57 (V.ref.inj e)) (hz := .inl ⟨_, rfl⟩) ?_
          intro H9 f9 _
          have S9 : Same H8 H9 := Same.fr1 S7 f9.fr1 n5
          have e69 := f9.fr1 _ _ n56 e67
          have p9 := S9 _ _ p8
          have t9 := S9 _ _ t8
          have hI2 := (ItC.good (K := K) (PairAt.all P8 S9) hc).app (ItC.good (K := K) (PairAt.all P8 S9) hc)
          clear S57 S4 sa st sb sc sd se sf sg ea et eb ec ed ee ef eg l3 l4 l5 S7 e57 e67 f9 hIC hg0
          walk_at "rdn"
          intro c8 hc8
          have s10 := Same.new (o := .lst [.ref c6]) hc8
          have n68 : c6 ≠ c8 := fun e => by rw [e, hc8] at e69; cases e69
          walk_at "rdn"
          refine r_law_refused rfl (a := 0) (x := .ref c6) (hp := s10 _ _ p9) (ht := s10 _ _ t9) (hl := upd_same) (hr := .inr (.inr (.inr (.inr (.inl ⟨rfl, rfl, rfl, rfl, c6, _, _, rfl, .inl (s10 _ _ e69), hI2.mono fun x c z => z.same s10, goC_two hcm, hl10⟩))))) (h5 := h5) (hx := fun e => n68 (V.ref.inj e)) (hz := .inl ⟨_, rfl⟩) ?_
          intro H10 f10 _
          have S10 : Same H8 H10 := Same.fr1 (S9.trans s10) f10.fr1 n6
          walk_at "rdn"
          exact ⟨⟨_, _, _, _, _, _, rfl⟩, s8.trans S10⟩
        · rintro σ H8 ⟨⟨u5, u6, u11, u12, u13, u14, rfl⟩, s8⟩
          have p8 := s8 _ _ p7
          have t8 := s8 _ _ t7
          have F8 : Fr1 q H H8 := fun b o nb e => s8 _ _ (F7 _ _ nb e)
          have fq8 := s8 _ _ fq7
          clear s8 P7 l7 p7 t7 F7 fq7
          walk_at "rdn"
          intro d1 hd1
          walk_at "rdn"
          intro d2 hd2
          walk_at "rdn"
          have nd12 : d1 ≠ d2 := by walk_at "ne"
          refine q_kvs [(.inl 0, .int 1)] upd_same rfl (by decide) ?_
          walk_at "rdn"
          have S9 : Same H8 (upd (upd (upd H8 d1 (.dK [])) d2 (.dK [])) d2 (.dK (mergeK [] [(.inl 0, .int 1)]))) := by walk_at "sm"
          have x1 : upd (upd (upd H8 d1 (.dK [])) d2 (.dK [])) d2 (.dK (mergeK [] [(.inl 0, .int 1)])) d1 = some (.dK []) := by walk_at "lk"
          have x2 : upd (upd (upd H8 d1 (.dK [])) d2 (.dK [])) d2 (.dK (mergeK [] [(.inl 0, .int 1)])) d2 = some (.dK (mergeK [] [(.inl 0, .int 1)])) := upd_same
          generalize upd (upd (upd H8 d1 (.dK [])) d2 (.dK [])) d2 (.dK (mergeK [] [(.inl 0, .int 1)])) = H9 at S9 x1 x2 ⊢
          clear hd1 hd2
          intro L hL
          have s9 := Same.new (o := .lst [V.non, V.int 7, V.str (Str.ofString "0 1"), V.ref d1, V.ref d2, V.bl true, V.ref p]) hL
          have eL : upd H9 L (.lst [V.non, V.int 7, V.str (Str.ofString "0 1"), V.ref d1, V.ref d2, V.bl true, V.ref p]) L = some (.lst [V.non, V.int 7, V.str (Str.ofString "0 1"), V.ref d1, V.ref d2, V.bl true, V.ref p]) := upd_same
          walk_at "rdn"
          intro D9 hD9
          generalize upd H9 L (.lst [V.non, V.int 7, V.str (Str.ofString "0 1"), V.ref d1, V.ref d2, V.bl true, V.ref p]) = HA at s9 eL hD9 ⊢
          have xa1 := s9 _ _ x1
          have xa2 := s9 _ _ x2
          have xp := s9 _ _ (S9 _ _ p8)
          have xt := s9 _ _ (S9 _ _ t8)
          have SA := S9.trans s9
          refine lc_itemsB (fun _ => true) (SqL.of eL) (by simp) hD9 (fun x hx H10 R s10 hR => ?_) (fun H10 s10 e10 => ?_)
          · have hB : (∃ ty, TyX K H10 x ty ∧ PySem.W.kitAny K ty [.type "list", .type "tuple"] = some false ∧ PySem.W.kitOne K ty (.type "list") = some false) ∧ NoL H10 x ∧ SelfV x ∧ ∀ c, H10 c = none → x ≠ .ref c := by
              have y1 := s10 _ _ xa1
              have y2 := s10 _ _ xa2
              have y3 := s10 _ _ xp
              have ty : TyX K H10 (.ref p) (.ref T.C_Counts) := .base (.ins y3 T.c_Counts T.ha_Counts T.hn T.htk T.hm_Counts)
              simp only [List.mem_cons, List.not_mem_nil, or_false] at hx
              rcases hx with rfl | rfl | rfl | rfl | rfl | rfl | rfl
              · exact ⟨⟨_, .base .non, ka_f kt_NoneType_list (ka_f kt_NoneType_tuple ka_nil), kt_NoneType_list⟩, .inl fun a z => (by cases z), .inr (.inr (.inr (.inr rfl))), fun c _ z => by cases z⟩
              · exact ⟨⟨_, .base (.int _), ka_f kt_int_list (ka_f kt_int_tuple ka_nil), kt_int_list⟩, .inl fun a z => (by cases z), .inr (.inr (.inl ⟨_, rfl⟩)), fun c _ z => by cases z⟩
              · exact ⟨⟨_, .base (.str _), ka_f kt_str_list (ka_f kt_str_tuple ka_nil), kt_str_list⟩, .inl fun a z => (by cases z), .inr (.inl ⟨_, rfl⟩), fun c _ z => by cases z⟩
              · exact ⟨⟨_, .base (.dK y1), ka_f kt_dict_list (ka_f kt_dict_tuple ka_nil), kt_dict_list⟩, .inr ⟨d1, _, rfl, y1, fun xs z => by cases z⟩, .inl ⟨_, rfl⟩, fun c ec z => by cases z; rw [y1] at ec; cases ec⟩
              · exact ⟨⟨_, .base (.dK y2), ka_f kt_dict_list (ka_f kt_dict_tuple ka_nil), kt_dict_list⟩, .inr ⟨d2, _, rfl, y2, fun xs z => by cases z⟩, .inl ⟨_, rfl⟩, fun c ec z => by cases z; rw [y2] at ec; cases ec⟩
              · exact ⟨⟨_, .base (.bl _), ka_f kt_bool_list (ka_f kt_bool_tuple ka_nil), kt_bool_list⟩, .inl fun a z => (by cases z), .inr (.inr (.inr (.inl ⟨_, rfl⟩))), fun c _ z => by cases z⟩
              · exact ⟨⟨_, ty, ka_f (kit_sub (by decide +kernel) T.kl_Counts) (ka_f (kit_sub (by decide +kernel) T.kt_Counts) ka_nil), kit_sub (by decide +kernel) T.kl_Counts⟩, .inr ⟨p, _, rfl, y3, fun xs z => by cases z⟩, .inl ⟨_, rfl⟩, fun c ec z => by cases z; rw [y3] at ec; cases ec⟩
            obtain ⟨⟨ty, g1, g2, g3⟩, g4, g5, g6⟩ := hB
            have p10 := s10 _ _ xp
            have t10 := s10 _ _ xt
            clear hx s10 xp xt xa1 xa2 x1 x2
            walk_at "rdn"
            intro c hc
            have s11 := Same.new (o := .lst [x]) hc
            walk_at "rdn"
            refine r_law_refused rfl (a := 0) (x := x) (hp := s11 _ _ p10) (ht := s11 _ _ t10) (hl := upd_same) (hr := .inr (.inr (.inr (.inr (.inr ⟨rfl, rfl, rfl, rfl, ty, g1.mono s11, g2, g3, g4.same s11⟩))))) (h5 := h5) (hx := g6 c hc) (hz := g5) ?_
            intro H11 f11 _
            exact hR H11 (s11.trans (f11.noL (g4.same s11)))
          · walk_at "rdn"
            have SB := SA.trans s10
            exact R_of (k _ _ (fun b o nb e => SB _ _ (F8 _ _ nb e)) (SB _ _ fq8) hz4) (by simp)
theorem ok_law (T : Tx K mg) : FnOk P w K mg base CX0 11 T.f_law T.d_law ["script"] (sp_law K) := by
  refine T.F_law.ok sc_law (fun vs H Q E h => ?_) (fun cdv A outer s H vs Q E hr h => ?_)
  · rcases h with ⟨a, ns, rfl, hs, hl, k⟩
    all_goals rfl
  · have hu := hu_of hr
    refine ⟨_, (pss_cons (ps_for PassesOwn.never rfl (kpi_list (K := K) rfl (pe_op op_cat (pe_slice (ks_list (K := K) rfl) (pv 0) po_none (po_some pe_int)) (pe_lst (pa_cons pe_int (pa_nil))))) (pg_name (i := 1) sc_law.nd rfl (Or.inl rfl))
      (pss_cons (ps_set (i := 2) sc_law.nd rfl (Or.inl rfl) (pe_call (ok_law_pool (P := P) T) (hr.mono (by decide)) rfl T.m_law_pool T.k_law_pool T.b_law_pool .nil pass0 (pa_cons (pv 1) (pa_nil))))
      (pss_cons (ps_set (i := 3) sc_law.nd rfl (Or.inl rfl) (pe_call (ok_law_take (P := P) T) (hr.mono (by decide)) rfl T.m_law_take T.k_law_take T.b_law_take .nil pass0 (pa_cons (pv 2) (pa_cons pe_int (pa_nil)))))
      (pss_cons (ps_set (i := 4) sc_law.nd rfl (Or.inl rfl) (pe_op op_add pe_int (pe_call (ok_law_take (P := P) T) (hr.mono (by decide)) rfl T.m_law_take T.k_law_take T.b_law_take .nil pass0 (pa_cons (pv 2) (pa_cons pe_int (pa_nil))))))
      (pss_cons (ps_set (i := 5) sc_law.nd rfl (Or.inl rfl) (pe_call (ok_law_numbers (P := P) T) (hr.mono (by decide)) rfl T.m_law_numbers T.k_law_numbers T.b_law_numbers .nil pass0 (pa_cons (pv 2) (pa_cons (pv 4) (pa_nil)))))
      (pss_cons (ps_set (i := 6) sc_law.nd rfl (Or.inl rfl) (pe_ix (ki_list (K := K) rfl) (pe_lst (pa_cons (pe_call (ok_law_near (P := P) T) (hr.mono (by decide)) rfl T.m_law_near T.k_law_near T.b_law_near .nil pass0 (pa_cons (pv 5) (pa_cons (pv 2) (pa_nil)))) (pa_cons (pe_call (ok_law_numbers (P := P) T) (hr.mono (by decide)) rfl T.m_law_numbers T.k_law_numbers T.b_law_numbers .nil pass0 (pa_cons (pv 2) (pa_cons (pv 4) (pa_nil)))) (pa_cons (pe_callTy (T := "list") (kx_list (K := K) rfl) (by rfl) T.z_list (by decide +kernel) (pa_cons (pv 5) (pa_nil))) (pa_nil))))) (pv 3) (fun _ _ => rfl)))
      (pss_cons (ps_set (i := 7) sc_law.nd rfl (Or.inl rfl) (pe_make T.mk_Counts (ok_Counts_init (P := P) T) (hr.mono (by decide)) rfl T.g_Counts T.b_Counts_init .nil pass0 (pa_cons (pv 5) (pa_nil))))
      (pss_cons (ps_set (i := 8) sc_law.nd rfl (Or.inl rfl) (pe_make T.mk_Counts (ok_Counts_init (P := P) T) (hr.mono (by decide)) rfl T.g_Counts T.b_Counts_init .nil pass0 (pa_cons (pv 6) (pa_nil))))
      (pss_cons (ps_if (PW.pt (pw_or (pt_not (pt_val (pe_call (ok_law_from (P := P) T) (hr.mono (by decide)) rfl T.m_law_from T.k_law_from T.b_law_from .nil pass0 (pa_cons (pv 7) (pa_cons (pv 5) (pa_cons (pv 8) (pa_cons (pv 6) (pa_nil)))))))) (pw_or1 (pt_not (pt_val (pe_call (ok_law_from (P := P) T) (hr.mono (by decide)) rfl T.m_law_from T.k_law_from T.b_law_from .nil pass0 (pa_cons (pv 8) (pa_cons (pv 6) (pa_cons (pv 7) (pa_cons (pv 5) (pa_nil)))))))))))
      (pss_one (ps_ret pe_bl)) pss_nil)
      (pss_cons (ps_if (PW.pt (pw_or (pt_not (pt_val (pe_call (ok_law_raised (P := P) T) (hr.mono (by decide)) rfl T.m_law_raised T.k_law_raised T.b_law_raised .nil pass0 (pa_cons (pv 7) (pa_cons (pv 5) (pa_cons (pv 2) (pa_nil))))))) (pw_or1 (pt_not (pt_val (pe_call (ok_law_changed (P := P) T) (hr.mono (by decide)) rfl T.m_law_changed T.k_law_changed T.b_law_changed .nil pass0 (pa_cons (pv 7) (pa_cons (pv 5) (pa_cons (pv 2) (pa_nil))))))))))
      (pss_one (ps_ret pe_bl)) pss_nil)
      (pss_one (ps_if (PW.pt (pw_or (pt_not (pt_val (pe_call (ok_law_from (P := P) T) (hr.mono (by decide)) rfl T.m_law_from T.k_law_from T.b_law_from .nil pass0 (pa_cons (pv 7) (pa_cons (pv 5) (pa_cons (pv 8) (pa_cons (pv 6) (pa_nil)))))))) (pw_or1 (pt_cmpR (ko_neD (K := K) rfl hr.units) (pe_meth0 (pv 7) T.c_Counts T.mt_Counts_told (ok_Counts_told (P := P) T) (hr.mono (by decide)) T.b_Counts_told .nil pass0) (pe_callTy (T := "tuple") (kx_tuple (K := K) rfl) (by rfl) T.z_tuple (by decide +kernel) (pa_cons (pv 5) (pa_nil))) (nomark _)))))
      (pss_one (ps_ret pe_bl)) pss_nil))))))))))))
      (pss_one (ps_ret pe_bl))), ?_⟩
    rcases h with ⟨a, ns, rfl, hs, hl, k⟩
    walk_at "rdn"
    intro d hd
    walk_at "rdn"
    intro e he
    have hlen := cutV_length (List.map V.int ns) none (some 30)
    rw [List.length_map] at hlen
    have hall : ∀ x ∈ cutV (List.map V.int ns) none (some 30), ∃ n : Int, x = .int n := fun x hx => by
      obtain ⟨n, _, rfl⟩ := List.mem_map.mp (cutV_mem hx)
      exact ⟨n, rfl⟩
    generalize cutV (List.map V.int ns) none (some 30) = cx at hlen hall he ⊢
    walk_at "rdn"
    intro f hf
    walk_at "rdn"
    have f1 : upd (upd (upd H d (.lst cx)) e (.lst [.int 6])) f (.lst (cx ++ [.int 6])) f = some (.lst (cx ++ [.int 6])) := upd_same
    have hall2 : ∀ x ∈ cx ++ [V.int 6], ∃ n : Int, x = .int n := fun x hx => by
      rcases List.mem_append.mp hx with hx | hx
      · exact hall x hx
      · exact ⟨6, List.mem_singleton.mp hx⟩
    generalize upd (upd (upd H d (.lst cx)) e (.lst [.int 6])) f (.lst (cx ++ [.int 6])) = H0 at f1 ⊢
    clear hd he hf hs hall
    generalize cx ++ [V.int 6] = xs at hall2 f1 ⊢
    refine for_list (K := K) (a := f) (xs := xs) (fun i σ H' => (∃ u1 u2 u3 u4 u5 u6 u7 u8 : Option V, σ = [some (.ref a), u1, u2, u3, u4, u5, u6, u7, u8]) ∧ H' f = some (.lst xs)) ⟨⟨none, none, none, none, none, none, none, none, rfl⟩, f1⟩ (fun i σ H' _ h => SqL.of h.2) ?_ ?_
    · rintro i x σ H1 hx ⟨⟨u1, u2, u3, u4, u5, u6, u7, u8, rfl⟩, e1⟩
      obtain ⟨n, rfl⟩ := hall2 x (List.mem_of_getElem? hx)
      walk_at "rdn"
      intro p z hp hz
      walk_at "rdn"
      have nfp : f ≠ p := by walk_at "ne"
      have F1 : Fr1 p H1 (upd (upd (upd H1 p (.lst [.int z])) p (.lst [.int (z / 3)])) p (.lst [.int (z / 3 / 4)])) := fun b o nb e => by walk_at "lk"
      have g1 : upd (upd (upd H1 p (.lst [.int z])) p (.lst [.int (z / 3)])) p (.lst [.int (z / 3 / 4)]) p = some (.lst [.int (z / 3 / 4)]) := upd_same
      have g2 := F1 _ _ nfp e1
      have hz2 : 0 ≤ z / 3 / 4 := by omega
      obtain ⟨m, hm⟩ : ∃ m, m = 2 + z / 3 % 4 := ⟨_, rfl⟩
      have h2 : 2 ≤ m := by omega
      have h5 : m ≤ 5 := by omega
      rw [← hm]
      generalize upd (upd (upd H1 p (.lst [.int z])) p (.lst [.int (z / 3)])) p (.lst [.int (z / 3 / 4)]) = H2 at F1 g1 g2 ⊢
      have hw0 : 0 ≤ z % 3 := by omega
      have hw1 : z % 3 < 3 := by omega
      generalize z % 3 = wy at hw0 hw1 ⊢
      generalize z / 3 / 4 = z2 at hz2 g1 ⊢
      clear hm hp hz
      walk_at "rdn"
      intro l ms z3 H3 f3 g3 hz3 hl3 nlp e3 hml hmp
      have g4 := f3 _ _ nfp g2
      walk_at "rdn"
      intro l2 ns2 z4 H4 f4 g5 hz4 hl4 nl2p e4 hnl hnp
      have g6 := f4 _ _ nfp g4
      have e5 := f4 _ _ nlp e3
      walk_at "rdn"
      intro l3 ns3 z5 H5 f5 g7 hz5 hl5 nl3p e6 hnl3 hnp3
      have g8 := f5 _ _ nfp g6
      have e7 := f5 _ _ nlp e5
      have e8 := f5 _ _ nl2p e4
      walk_at "rdn"
      intro l4 hl4
      walk_at "rdn"
      intro l5 hl5b
      walk_at "rdn"
      have npl4 : p ≠ l4 := by walk_at "ne"
      have npl5 : p ≠ l5 := by walk_at "ne"
      have s6 : Same H5 (upd (upd H5 l4 (.lst (ms.map V.int))) l5 (.lst [.ref l2, .ref l3, .ref l4])) := (Same.new hl4).trans (Same.new hl5b)
      have x4 : upd (upd H5 l4 (.lst (ms.map V.int))) l5 (.lst [.ref l2, .ref l3, .ref l4]) l4 = some (.lst (ms.map V.int)) := by walk_at "lk"
      have x5 : upd (upd H5 l4 (.lst (ms.map V.int))) l5 (.lst [.ref l2, .ref l3, .ref l4]) l5 = some (.lst [.ref l2, .ref l3, .ref l4]) := upd_same
      generalize upd (upd H5 l4 (.lst (ms.map V.int))) l5 (.lst [.ref l2, .ref l3, .ref l4]) = H6 at s6 x4 x5 ⊢
      obtain ⟨lx, hat, qx, qs, rfl, nqp, eq, hql, hqn⟩ := at_all [V.ref l2, V.ref l3, V.ref l4] (fun x => ∃ (q : Addr) (qs : List Int), x = .ref q ∧ q ≠ p ∧ H6 q = some (.lst (qs.map V.int)) ∧ qs.length = ms.length ∧ ∀ n ∈ qs, 0 ≤ n) (i := wy) (fun x hx => by
        simp only [List.mem_cons, List.not_mem_nil, or_false] at hx
        rcases hx with rfl | rfl | rfl
        · exact ⟨l2, ns2, rfl, nl2p, s6 _ _ e8, hnl, hnp⟩
        · exact ⟨l3, ns3, rfl, nl3p, s6 _ _ e6, by omega, hnp3⟩
        · exact ⟨l4, ms, rfl, npl4.symm, x4, rfl, hmp⟩) hw0 hw1
      refine q_ixL (K := K) (SqL.of x5) hat ?_
      have y1 := s6 _ _ g7
      have y2 := s6 _ _ g8
      have y3 := s6 _ _ e7
      have hms2 : 2 ≤ ms.length := by omega
      have hms5 : ms.length ≤ 5 := by omega
      have nnm := NN.of hmp
      have nnq := NN.of hqn
      clear F1 g1 g2 f3 g3 g4 f4 g5 g6 e5 f5 g7 g8 e7 e8 e3 e4 e6 hl4 hl5b s6 x4 x5 hat hw0 hw1
      walk_at "rdn"
      intro x1 dx1 nx1 ndx1 nex1
      refine r_Counts_init rfl (hp := upd_same) (ha := by walk_at "lk") (hl := by simp; omega) (hl2 := by simp; omega) (hn := nnm) ?_
      intro t1 H7 f7 c1 c2
      have s7 : Same H6 H7 := fun b o eb => f7 b o (by walk_at "ne") (by walk_at "lk")
      refine ⟨rfl, ?_⟩
      clear f7 nx1 ndx1 nex1
      have eq7 := s7 _ _ eq
      walk_at "rdn"
      intro x2 dx2 nx2 ndx2 nex2
      refine r_Counts_init rfl (hp := upd_same) (ha := by walk_at "lk") (hl := by simp; omega) (hl2 := by simp; omega) (hn := nnq) ?_
      intro t2 H8 f8 c3 c4
      have s8 : Same H7 H8 := fun b o eb => f8 b o (by walk_at "ne") (by walk_at "lk")
      refine ⟨rfl, ?_⟩
      clear f8 nx2 ndx2 nex2
      have c1 := s8 _ _ c1
      have c2 := s8 _ _ c2
      have s9 := s7.trans s8
      have y1 := s9 _ _ y1
      have y2 := s9 _ _ y2
      have y3 := s9 _ _ y3
      have eq := s9 _ _ eq
      clear s7 s8 s9 eq7
      have m1 : x1 ≠ p := fun e => by rw [e, y1] at c1; cases c1
      have m2 : t1 ≠ p := fun e => by rw [e, y1] at c2; cases c2
      have m3 : x2 ≠ p := fun e => by rw [e, y1] at c3; cases c3
      have m4 : t2 ≠ p := fun e => by rw [e, y1] at c4; cases c4
      walk_at "rdn"
      intro H9 s9
      have c1 := s9 _ _ c1
      have c2 := s9 _ _ c2
      have c3 := s9 _ _ c3
      have c4 := s9 _ _ c4
      have y1 := s9 _ _ y1
      have y2 := s9 _ _ y2
      have y3 := s9 _ _ y3
      have eq := s9 _ _ eq
      clear s9
      walk_at "rdn"
      intro HA sA
      have c1 := sA _ _ c1
      have c2 := sA _ _ c2
      have c3 := sA _ _ c3
      have c4 := sA _ _ c4
      have y1 := sA _ _ y1
      have y2 := sA _ _ y2
      have y3 := sA _ _ y3
      have eq := sA _ _ eq
      clear sA
      walk_at "rdn"
      intro kB HB fB yB hkB
      have c1 := fB _ _ m1 c1
      have c2 := fB _ _ m2 c2
      have c3 := fB _ _ m3 c3
      have c4 := fB _ _ m4 c4
      have y2 := fB _ _ nfp y2
      have y3 := fB _ _ nlp y3
      have eq := fB _ _ nqp eq
      clear fB y1
      walk_at "rdn"
      intro kC HC fC yC hkC
      have c1 := fC _ _ m1 c1
      have c2 := fC _ _ m2 c2
      have c3 := fC _ _ m3 c3
      have c4 := fC _ _ m4 c4
      have y2 := fC _ _ nfp y2
      have y3 := fC _ _ nlp y3
      have eq := fC _ _ nqp eq
      clear fC yB
      walk_at "rdn"
      intro HD sD
      have c1 := sD _ _ c1
      have c2 := sD _ _ c2
      have y2 := sD _ _ y2
      have y3 := sD _ _ y3
      clear sD
      walk_at "rdn"
      intro tE htE
      walk_at "rdn"
      exact ⟨⟨_, _, _, _, _, _, _, _, rfl⟩, by walk_at "lk"⟩
    · rintro σ H1 ⟨⟨u1, u2, u3, u4, u5, u6, u7, u8, rfl⟩, e1⟩
      walk_at "rdn"
      exact k _

end
theorem all_mk {l : PySem.W.OpenLaw} [PF l.prog] {w : World} {K : PySem.W.Frag} {h : Heap} {mg : Str → Option Value} {fa : Addr} (X : K.In h) (G : h.Ns mainGlobals mg) (hfa : mg "law" = some (.ref fa))
    {f_is_whole : Addr} {od_is_whole an_is_whole : Option Addr} {sl_is_whole : Array (Option Value)} {oc_is_whole kV_is_whole dc_is_whole pm_is_whole cd_is_whole ct_is_whole : Value}
    {da_is_whole : Addr} {ddd_is_whole : Option Addr} {dn_is_whole : Nat} {dsl_is_whole : Array (Option Value)}
    {f_is_list : Addr} {od_is_list an_is_list : Option Addr} {sl_is_list : Array (Option Value)} {oc_is_list kV_is_list dc_is_list pm_is_list cd_is_list ct_is_list : Value}
    {f_is_member : Addr} {od_is_member an_is_member : Option Addr} {sl_is_member : Array (Option Value)} {oc_is_member kV_is_member dc_is_member pm_is_member cd_is_member ct_is_member : Value}
    {f_check_member : Addr} {od_check_member an_check_member : Option Addr} {sl_check_member : Array (Option Value)} {oc_check_member kV_check_member dc_check_member pm_check_member cd_check_member ct_check_member : Value}
    {f_are_changes : Addr} {od_are_changes an_are_changes : Option Addr} {sl_are_changes : Array (Option Value)} {oc_are_changes kV_are_changes dc_are_changes pm_are_changes cd_are_changes ct_are_changes : Value}
    {da_are_changes : Addr} {ddd_are_changes : Option Addr} {dn_are_changes : Nat} {dsl_are_changes : Array (Option Value)}
    {f_Counts_init : Addr} {od_Counts_init an_Counts_init : Option Addr} {sl_Counts_init : Array (Option Value)} {oc_Counts_init kV_Counts_init dc_Counts_init pm_Counts_init cd_Counts_init ct_Counts_init : Value}
    {f_Counts_len : Addr} {od_Counts_len an_Counts_len : Option Addr} {sl_Counts_len : Array (Option Value)} {oc_Counts_len kV_Counts_len dc_Counts_len pm_Counts_len cd_Counts_len ct_Counts_len : Value}
    {f_Counts_told : Addr} {od_Counts_told an_Counts_told : Option Addr} {sl_Counts_told : Array (Option Value)} {oc_Counts_told kV_Counts_told dc_Counts_told pm_Counts_told cd_Counts_told ct_Counts_told : Value}
    {f_Counts_eq : Addr} {od_Counts_eq an_Counts_eq : Option Addr} {sl_Counts_eq : Array (Option Value)} {oc_Counts_eq kV_Counts_eq dc_Counts_eq pm_Counts_eq cd_Counts_eq ct_Counts_eq : Value}
    {f_Counts_of : Addr} {od_Counts_of an_Counts_of : Option Addr} {sl_Counts_of : Array (Option Value)} {oc_Counts_of kV_Counts_of dc_Counts_of pm_Counts_of cd_Counts_of ct_Counts_of : Value}
    {f_Counts_changed : Addr} {od_Counts_changed an_Counts_changed : Option Addr} {sl_Counts_changed : Array (Option Value)} {oc_Counts_changed kV_Counts_changed dc_Counts_changed pm_Counts_changed cd_Counts_changed ct_Counts_changed : Value}
    {f_Counts_raised : Addr} {od_Counts_raised an_Counts_raised : Option Addr} {sl_Counts_raised : Array (Option Value)} {oc_Counts_raised kV_Counts_raised dc_Counts_raised pm_Counts_raised cd_Counts_raised ct_Counts_raised : Value}
    {da_Counts_raised : Addr} {ddd_Counts_raised : Option Addr} {dn_Counts_raised : Nat} {dsl_Counts_raised : Array (Option Value)} {dt_Counts_raised_0 : Tok}
    {f_Counts_check_like : Addr} {od_Counts_check_like an_Counts_check_like : Option Addr} {sl_Counts_check_like : Array (Option Value)} {oc_Counts_check_like kV_Counts_check_like dc_Counts_check_like pm_Counts_check_like cd_Counts_check_like ct_Counts_check_like : Value}
    {f_Counts_changes_from : Addr} {od_Counts_changes_from an_Counts_changes_from : Option Addr} {sl_Counts_changes_from : Array (Option Value)} {oc_Counts_changes_from kV_Counts_changes_from dc_Counts_changes_from pm_Counts_changes_from cd_Counts_changes_from ct_Counts_changes_from : Value}
    {f_law_take : Addr} {od_law_take an_law_take : Option Addr} {sl_law_take : Array (Option Value)} {oc_law_take kV_law_take dc_law_take pm_law_take cd_law_take ct_law_take : Value}
    {f_law_pool : Addr} {od_law_pool an_law_pool : Option Addr} {sl_law_pool : Array (Option Value)} {oc_law_pool kV_law_pool dc_law_pool pm_law_pool cd_law_pool ct_law_pool : Value}
    {f_law_numbers : Addr} {od_law_numbers an_law_numbers : Option Addr} {sl_law_numbers : Array (Option Value)} {oc_law_numbers kV_law_numbers dc_law_numbers pm_law_numbers cd_law_numbers ct_law_numbers : Value}
    {f_law_near : Addr} {od_law_near an_law_near : Option Addr} {sl_law_near : Array (Option Value)} {oc_law_near kV_law_near dc_law_near pm_law_near cd_law_near ct_law_near : Value}
    {f_law_first : Addr} {od_law_first an_law_first : Option Addr} {sl_law_first : Array (Option Value)} {oc_law_first kV_law_first dc_law_first pm_law_first cd_law_first ct_law_first : Value}
    {f_law_refused : Addr} {od_law_refused an_law_refused : Option Addr} {sl_law_refused : Array (Option Value)} {oc_law_refused kV_law_refused dc_law_refused pm_law_refused cd_law_refused ct_law_refused : Value}
    {f_law_raised : Addr} {od_law_raised an_law_raised : Option Addr} {sl_law_raised : Array (Option Value)} {oc_law_raised kV_law_raised dc_law_raised pm_law_raised cd_law_raised ct_law_raised : Value}
    {f_law_from : Addr} {od_law_from an_law_from : Option Addr} {sl_law_from : Array (Option Value)} {oc_law_from kV_law_from dc_law_from pm_law_from cd_law_from ct_law_from : Value}
    {f_law_some : Addr} {od_law_some an_law_some : Option Addr} {sl_law_some : Array (Option Value)} {oc_law_some kV_law_some dc_law_some pm_law_some cd_law_some ct_law_some : Value}
    {f_law_changed : Addr} {od_law_changed an_law_changed : Option Addr} {sl_law_changed : Array (Option Value)} {oc_law_changed kV_law_changed dc_law_changed pm_law_changed cd_law_changed ct_law_changed : Value}
    {f_law : Addr} {od_law an_law : Option Addr} {sl_law : Array (Option Value)} {oc_law kV_law dc_law pm_law cd_law ct_law : Value}
    {C_Counts : Addr}
    {C_HallError : Addr}
    {C_NoCounts : Addr}
    {C_NoMember : Addr}
    {C_NoNumber : Addr}
    {C_Unlike : Addr}
    {fI_NoCounts cda_NoCounts cc_NoCounts : Addr} {odI_NoCounts anI_NoCounts : Option Addr} {slI_NoCounts ccsI_NoCounts cslI_NoCounts : Array (Option Value)} {ocI_NoCounts kVI_NoCounts dcI_NoCounts pmI_NoCounts ctI_NoCounts cclI_NoCounts clI_NoCounts : Value} {cddI_NoCounts cldI_NoCounts : Option Addr} {vsI_NoCounts : Array Value} {tfI_NoCounts : Tok}
    {fI_NoMember cda_NoMember cc_NoMember : Addr} {odI_NoMember anI_NoMember : Option Addr} {slI_NoMember ccsI_NoMember cslI_NoMember : Array (Option Value)} {ocI_NoMember kVI_NoMember dcI_NoMember pmI_NoMember ctI_NoMember cclI_NoMember clI_NoMember : Value} {cddI_NoMember cldI_NoMember : Option Addr} {vsI_NoMember : Array Value} {tfI_NoMember : Tok}
    {fI_NoNumber cda_NoNumber cc_NoNumber : Addr} {odI_NoNumber anI_NoNumber : Option Addr} {slI_NoNumber ccsI_NoNumber cslI_NoNumber : Array (Option Value)} {ocI_NoNumber kVI_NoNumber dcI_NoNumber pmI_NoNumber ctI_NoNumber cclI_NoNumber clI_NoNumber : Value} {cddI_NoNumber cldI_NoNumber : Option Addr} {vsI_NoNumber : Array Value} {tfI_NoNumber : Tok}
    {fI_Unlike cda_Unlike cc_Unlike : Addr} {odI_Unlike anI_Unlike : Option Addr} {slI_Unlike ccsI_Unlike cslI_Unlike : Array (Option Value)} {ocI_Unlike kVI_Unlike dcI_Unlike pmI_Unlike ctI_Unlike cclI_Unlike clI_Unlike : Value} {cddI_Unlike cldI_Unlike : Option Addr} {vsI_Unlike : Array Value} {tfI_Unlike : Tok}
    {t_LEAST_MEMBERS : Tok}
    {t_MOST_MEMBERS : Tok}
    (aC_Unlike : PySem.W.nsIn K mainGlobals "Unlike" = some (some (.ref C_Unlike)))
    (aC_NoNumber : PySem.W.nsIn K mainGlobals "NoNumber" = some (some (.ref C_NoNumber)))
    (aC_NoMember : PySem.W.nsIn K mainGlobals "NoMember" = some (some (.ref C_NoMember)))
    (aC_NoCounts : PySem.W.nsIn K mainGlobals "NoCounts" = some (some (.ref C_NoCounts)))
    (aC_HallError : PySem.W.nsIn K mainGlobals "HallError" = some (some (.ref C_HallError)))
    (aC_Counts : PySem.W.nsIn K mainGlobals "Counts" = some (some (.ref C_Counts)))
    (a_is_whole : PySem.W.nsIn K mainGlobals "is_whole" = some (some (.ref f_is_whole)))
    (l_is_whole : K.lookup f_is_whole = some ⟨oc_is_whole, od_is_whole, .func (PySem.W.fnOf "is_whole" "is_whole" (defArgs s_is_whole) (defBody s_is_whole) (defScope s_is_whole) (.ref da_is_whole) kV_is_whole dc_is_whole pm_is_whole an_is_whole cd_is_whole ct_is_whole), sl_is_whole⟩)
    (c_is_whole : PySem.W.codeIn K cd_is_whole "is_whole" = true)
    (k_is_whole : PySem.W.keepIn K (.ref f_is_whole) = true)
    (e_is_whole : K.lookup da_is_whole = some ⟨.type "tuple", ddd_is_whole, .seq #[.none] dn_is_whole, dsl_is_whole⟩)
    (a_is_list : PySem.W.nsIn K mainGlobals "is_list" = some (some (.ref f_is_list)))
    (l_is_list : K.lookup f_is_list = some ⟨oc_is_list, od_is_list, .func (PySem.W.fnOf "is_list" "is_list" (defArgs s_is_list) (defBody s_is_list) (defScope s_is_list) .none kV_is_list dc_is_list pm_is_list an_is_list cd_is_list ct_is_list), sl_is_list⟩)
    (c_is_list : PySem.W.codeIn K cd_is_list "is_list" = true)
    (k_is_list : PySem.W.keepIn K (.ref f_is_list) = true)
    (a_is_member : PySem.W.nsIn K mainGlobals "is_member" = some (some (.ref f_is_member)))
    (l_is_member : K.lookup f_is_member = some ⟨oc_is_member, od_is_member, .func (PySem.W.fnOf "is_member" "is_member" (defArgs s_is_member) (defBody s_is_member) (defScope s_is_member) .none kV_is_member dc_is_member pm_is_member an_is_member cd_is_member ct_is_member), sl_is_member⟩)
    (c_is_member : PySem.W.codeIn K cd_is_member "is_member" = true)
    (k_is_member : PySem.W.keepIn K (.ref f_is_member) = true)
    (a_check_member : PySem.W.nsIn K mainGlobals "check_member" = some (some (.ref f_check_member)))
    (l_check_member : K.lookup f_check_member = some ⟨oc_check_member, od_check_member, .func (PySem.W.fnOf "check_member" "check_member" (defArgs s_check_member) (defBody s_check_member) (defScope s_check_member) .none kV_check_member dc_check_member pm_check_member an_check_member cd_check_member ct_check_member), sl_check_member⟩)
    (c_check_member : PySem.W.codeIn K cd_check_member "check_member" = true)
    (k_check_member : PySem.W.keepIn K (.ref f_check_member) = true)
    (a_are_changes : PySem.W.nsIn K mainGlobals "are_changes" = some (some (.ref f_are_changes)))
    (l_are_changes : K.lookup f_are_changes = some ⟨oc_are_changes, od_are_changes, .func (PySem.W.fnOf "are_changes" "are_changes" (defArgs s_are_changes) (defBody s_are_changes) (defScope s_are_changes) (.ref da_are_changes) kV_are_changes dc_are_changes pm_are_changes an_are_changes cd_are_changes ct_are_changes), sl_are_changes⟩)
    (c_are_changes : PySem.W.codeIn K cd_are_changes "are_changes" = true)
    (k_are_changes : PySem.W.keepIn K (.ref f_are_changes) = true)
    (e_are_changes : K.lookup da_are_changes = some ⟨.type "tuple", ddd_are_changes, .seq #[.none] dn_are_changes, dsl_are_changes⟩)
    (a_Counts_init : PySem.W.findIn K (.ref C_Counts) "__init__" = some (some (.ref f_Counts_init)))
    (i_Counts_init : PySem.W.isFn K (.ref f_Counts_init) = true)
    (l_Counts_init : K.lookup f_Counts_init = some ⟨oc_Counts_init, od_Counts_init, .func (PySem.W.fnOf "__init__" "Counts.__init__" (defArgs s_Counts_init) (defBody s_Counts_init) (defScope s_Counts_init) .none kV_Counts_init dc_Counts_init pm_Counts_init an_Counts_init cd_Counts_init ct_Counts_init), sl_Counts_init⟩)
    (c_Counts_init : PySem.W.codeIn K cd_Counts_init "Counts.__init__" = true)
    (k_Counts_init : PySem.W.keepIn K (.ref f_Counts_init) = true)
    (a_Counts_len : PySem.W.findIn K (.ref C_Counts) "__len__" = some (some (.ref f_Counts_len)))
    (i_Counts_len : PySem.W.isFn K (.ref f_Counts_len) = true)
    (l_Counts_len : K.lookup f_Counts_len = some ⟨oc_Counts_len, od_Counts_len, .func (PySem.W.fnOf "__len__" "Counts.__len__" (defArgs s_Counts_len) (defBody s_Counts_len) (defScope s_Counts_len) .none kV_Counts_len dc_Counts_len pm_Counts_len an_Counts_len cd_Counts_len ct_Counts_len), sl_Counts_len⟩)
    (c_Counts_len : PySem.W.codeIn K cd_Counts_len "Counts.__len__" = true)
    (k_Counts_len : PySem.W.keepIn K (.ref f_Counts_len) = true)
    (a_Counts_told : PySem.W.findIn K (.ref C_Counts) "told" = some (some (.ref f_Counts_told)))
    (i_Counts_told : PySem.W.isFn K (.ref f_Counts_told) = true)
    (l_Counts_told : K.lookup f_Counts_told = some ⟨oc_Counts_told, od_Counts_told, .func (PySem.W.fnOf "told" "Counts.told" (defArgs s_Counts_told) (defBody s_Counts_told) (defScope s_Counts_told) .none kV_Counts_told dc_Counts_told pm_Counts_told an_Counts_told cd_Counts_told ct_Counts_told), sl_Counts_told⟩)
    (c_Counts_told : PySem.W.codeIn K cd_Counts_told "Counts.told" = true)
    (k_Counts_told : PySem.W.keepIn K (.ref f_Counts_told) = true)
    (a_Counts_eq : PySem.W.findIn K (.ref C_Counts) "__eq__" = some (some (.ref f_Counts_eq)))
    (i_Counts_eq : PySem.W.isFn K (.ref f_Counts_eq) = true)
    (l_Counts_eq : K.lookup f_Counts_eq = some ⟨oc_Counts_eq, od_Counts_eq, .func (PySem.W.fnOf "__eq__" "Counts.__eq__" (defArgs s_Counts_eq) (defBody s_Counts_eq) (defScope s_Counts_eq) .none kV_Counts_eq dc_Counts_eq pm_Counts_eq an_Counts_eq cd_Counts_eq ct_Counts_eq), sl_Counts_eq⟩)
    (c_Counts_eq : PySem.W.codeIn K cd_Counts_eq "Counts.__eq__" = true)
    (k_Counts_eq : PySem.W.keepIn K (.ref f_Counts_eq) = true)
    (a_Counts_of : PySem.W.findIn K (.ref C_Counts) "of" = some (some (.ref f_Counts_of)))
    (i_Counts_of : PySem.W.isFn K (.ref f_Counts_of) = true)
    (l_Counts_of : K.lookup f_Counts_of = some ⟨oc_Counts_of, od_Counts_of, .func (PySem.W.fnOf "of" "Counts.of" (defArgs s_Counts_of) (defBody s_Counts_of) (defScope s_Counts_of) .none kV_Counts_of dc_Counts_of pm_Counts_of an_Counts_of cd_Counts_of ct_Counts_of), sl_Counts_of⟩)
    (c_Counts_of : PySem.W.codeIn K cd_Counts_of "Counts.of" = true)
    (k_Counts_of : PySem.W.keepIn K (.ref f_Counts_of) = true)
    (a_Counts_changed : PySem.W.findIn K (.ref C_Counts) "changed" = some (some (.ref f_Counts_changed)))
    (i_Counts_changed : PySem.W.isFn K (.ref f_Counts_changed) = true)
    (l_Counts_changed : K.lookup f_Counts_changed = some ⟨oc_Counts_changed, od_Counts_changed, .func (PySem.W.fnOf "changed" "Counts.changed" (defArgs s_Counts_changed) (defBody s_Counts_changed) (defScope s_Counts_changed) .none kV_Counts_changed dc_Counts_changed pm_Counts_changed an_Counts_changed cd_Counts_changed ct_Counts_changed), sl_Counts_changed⟩)
    (c_Counts_changed : PySem.W.codeIn K cd_Counts_changed "Counts.changed" = true)
    (k_Counts_changed : PySem.W.keepIn K (.ref f_Counts_changed) = true)
    (a_Counts_raised : PySem.W.findIn K (.ref C_Counts) "raised" = some (some (.ref f_Counts_raised)))
    (i_Counts_raised : PySem.W.isFn K (.ref f_Counts_raised) = true)
    (l_Counts_raised : K.lookup f_Counts_raised = some ⟨oc_Counts_raised, od_Counts_raised, .func (PySem.W.fnOf "raised" "Counts.raised" (defArgs s_Counts_raised) (defBody s_Counts_raised) (defScope s_Counts_raised) (.ref da_Counts_raised) kV_Counts_raised dc_Counts_raised pm_Counts_raised an_Counts_raised cd_Counts_raised ct_Counts_raised), sl_Counts_raised⟩)
    (c_Counts_raised : PySem.W.codeIn K cd_Counts_raised "Counts.raised" = true)
    (k_Counts_raised : PySem.W.keepIn K (.ref f_Counts_raised) = true)
    (e_Counts_raised : K.lookup da_Counts_raised = some ⟨.type "tuple", ddd_Counts_raised, .seq #[.int 1 dt_Counts_raised_0] dn_Counts_raised, dsl_Counts_raised⟩)
    (a_Counts_check_like : PySem.W.findIn K (.ref C_Counts) "_check_like" = some (some (.ref f_Counts_check_like)))
    (i_Counts_check_like : PySem.W.isFn K (.ref f_Counts_check_like) = true)
    (l_Counts_check_like : K.lookup f_Counts_check_like = some ⟨oc_Counts_check_like, od_Counts_check_like, .func (PySem.W.fnOf "_check_like" "Counts._check_like" (defArgs s_Counts_check_like) (defBody s_Counts_check_like) (defScope s_Counts_check_like) .none kV_Counts_check_like dc_Counts_check_like pm_Counts_check_like an_Counts_check_like cd_Counts_check_like ct_Counts_check_like), sl_Counts_check_like⟩)
    (c_Counts_check_like : PySem.W.codeIn K cd_Counts_check_like "Counts._check_like" = true)
    (k_Counts_check_like : PySem.W.keepIn K (.ref f_Counts_check_like) = true)
    (a_Counts_changes_from : PySem.W.findIn K (.ref C_Counts) "changes_from" = some (some (.ref f_Counts_changes_from)))
    (i_Counts_changes_from : PySem.W.isFn K (.ref f_Counts_changes_from) = true)
    (l_Counts_changes_from : K.lookup f_Counts_changes_from = some ⟨oc_Counts_changes_from, od_Counts_changes_from, .func (PySem.W.fnOf "changes_from" "Counts.changes_from" (defArgs s_Counts_changes_from) (defBody s_Counts_changes_from) (defScope s_Counts_changes_from) .none kV_Counts_changes_from dc_Counts_changes_from pm_Counts_changes_from an_Counts_changes_from cd_Counts_changes_from ct_Counts_changes_from), sl_Counts_changes_from⟩)
    (c_Counts_changes_from : PySem.W.codeIn K cd_Counts_changes_from "Counts.changes_from" = true)
    (k_Counts_changes_from : PySem.W.keepIn K (.ref f_Counts_changes_from) = true)
    (a_law_take : PySem.W.nsIn K mainGlobals "_law_take" = some (some (.ref f_law_take)))
    (l_law_take : K.lookup f_law_take = some ⟨oc_law_take, od_law_take, .func (PySem.W.fnOf "_law_take" "_law_take" (defArgs s_law_take) (defBody s_law_take) (defScope s_law_take) .none kV_law_take dc_law_take pm_law_take an_law_take cd_law_take ct_law_take), sl_law_take⟩)
    (c_law_take : PySem.W.codeIn K cd_law_take "_law_take" = true)
    (k_law_take : PySem.W.keepIn K (.ref f_law_take) = true)
    (a_law_pool : PySem.W.nsIn K mainGlobals "_law_pool" = some (some (.ref f_law_pool)))
    (l_law_pool : K.lookup f_law_pool = some ⟨oc_law_pool, od_law_pool, .func (PySem.W.fnOf "_law_pool" "_law_pool" (defArgs s_law_pool) (defBody s_law_pool) (defScope s_law_pool) .none kV_law_pool dc_law_pool pm_law_pool an_law_pool cd_law_pool ct_law_pool), sl_law_pool⟩)
    (c_law_pool : PySem.W.codeIn K cd_law_pool "_law_pool" = true)
    (k_law_pool : PySem.W.keepIn K (.ref f_law_pool) = true)
    (a_law_numbers : PySem.W.nsIn K mainGlobals "_law_numbers" = some (some (.ref f_law_numbers)))
    (l_law_numbers : K.lookup f_law_numbers = some ⟨oc_law_numbers, od_law_numbers, .func (PySem.W.fnOf "_law_numbers" "_law_numbers" (defArgs s_law_numbers) (defBody s_law_numbers) (defScope s_law_numbers) .none kV_law_numbers dc_law_numbers pm_law_numbers an_law_numbers cd_law_numbers ct_law_numbers), sl_law_numbers⟩)
    (c_law_numbers : PySem.W.codeIn K cd_law_numbers "_law_numbers" = true)
    (k_law_numbers : PySem.W.keepIn K (.ref f_law_numbers) = true)
    (a_law_near : PySem.W.nsIn K mainGlobals "_law_near" = some (some (.ref f_law_near)))
    (l_law_near : K.lookup f_law_near = some ⟨oc_law_near, od_law_near, .func (PySem.W.fnOf "_law_near" "_law_near" (defArgs s_law_near) (defBody s_law_near) (defScope s_law_near) .none kV_law_near dc_law_near pm_law_near an_law_near cd_law_near ct_law_near), sl_law_near⟩)
    (c_law_near : PySem.W.codeIn K cd_law_near "_law_near" = true)
    (k_law_near : PySem.W.keepIn K (.ref f_law_near) = true)
    (a_law_first : PySem.W.nsIn K mainGlobals "_law_first" = some (some (.ref f_law_first)))
    (l_law_first : K.lookup f_law_first = some ⟨oc_law_first, od_law_first, .func (PySem.W.fnOf "_law_first" "_law_first" (defArgs s_law_first) (defBody s_law_first) (defScope s_law_first) .none kV_law_first dc_law_first pm_law_first an_law_first cd_law_first ct_law_first), sl_law_first⟩)
    (c_law_first : PySem.W.codeIn K cd_law_first "_law_first" = true)
    (k_law_first : PySem.W.keepIn K (.ref f_law_first) = true)
    (a_law_refused : PySem.W.nsIn K mainGlobals "_law_refused" = some (some (.ref f_law_refused)))
    (l_law_refused : K.lookup f_law_refused = some ⟨oc_law_refused, od_law_refused, .func (PySem.W.fnOf "_law_refused" "_law_refused" (defArgs s_law_refused) (defBody s_law_refused) (defScope s_law_refused) .none kV_law_refused dc_law_refused pm_law_refused an_law_refused cd_law_refused ct_law_refused), sl_law_refused⟩)
    (c_law_refused : PySem.W.codeIn K cd_law_refused "_law_refused" = true)
    (k_law_refused : PySem.W.keepIn K (.ref f_law_refused) = true)
    (a_law_raised : PySem.W.nsIn K mainGlobals "_law_raised" = some (some (.ref f_law_raised)))
    (l_law_raised : K.lookup f_law_raised = some ⟨oc_law_raised, od_law_raised, .func (PySem.W.fnOf "_law_raised" "_law_raised" (defArgs s_law_raised) (defBody s_law_raised) (defScope s_law_raised) .none kV_law_raised dc_law_raised pm_law_raised an_law_raised cd_law_raised ct_law_raised), sl_law_raised⟩)
    (c_law_raised : PySem.W.codeIn K cd_law_raised "_law_raised" = true)
    (k_law_raised : PySem.W.keepIn K (.ref f_law_raised) = true)
    (a_law_from : PySem.W.nsIn K mainGlobals "_law_from" = some (some (.ref f_law_from)))
    (l_law_from : K.lookup f_law_from = some ⟨oc_law_from, od_law_from, .func (PySem.W.fnOf "_law_from" "_law_from" (defArgs s_law_from) (defBody s_law_from) (defScope s_law_from) .none kV_law_from dc_law_from pm_law_from an_law_from cd_law_from ct_law_from), sl_law_from⟩)
    (c_law_from : PySem.W.codeIn K cd_law_from "_law_from" = true)
    (k_law_from : PySem.W.keepIn K (.ref f_law_from) = true)
    (a_law_some : PySem.W.nsIn K mainGlobals "_law_some" = some (some (.ref f_law_some)))
    (l_law_some : K.lookup f_law_some = some ⟨oc_law_some, od_law_some, .func (PySem.W.fnOf "_law_some" "_law_some" (defArgs s_law_some) (defBody s_law_some) (defScope s_law_some) .none kV_law_some dc_law_some pm_law_some an_law_some cd_law_some ct_law_some), sl_law_some⟩)
    (c_law_some : PySem.W.codeIn K cd_law_some "_law_some" = true)
    (k_law_some : PySem.W.keepIn K (.ref f_law_some) = true)
    (a_law_changed : PySem.W.nsIn K mainGlobals "_law_changed" = some (some (.ref f_law_changed)))
    (l_law_changed : K.lookup f_law_changed = some ⟨oc_law_changed, od_law_changed, .func (PySem.W.fnOf "_law_changed" "_law_changed" (defArgs s_law_changed) (defBody s_law_changed) (defScope s_law_changed) .none kV_law_changed dc_law_changed pm_law_changed an_law_changed cd_law_changed ct_law_changed), sl_law_changed⟩)
    (c_law_changed : PySem.W.codeIn K cd_law_changed "_law_changed" = true)
    (k_law_changed : PySem.W.keepIn K (.ref f_law_changed) = true)
    (a_law : PySem.W.nsIn K mainGlobals "law" = some (some (.ref f_law)))
    (l_law : K.lookup f_law = some ⟨oc_law, od_law, .func (PySem.W.fnOf "law" "law" (defArgs s_law) (defBody s_law) (defScope s_law) .none kV_law dc_law pm_law an_law cd_law ct_law), sl_law⟩)
    (c_law : PySem.W.codeIn K cd_law "law" = true)
    (k_law : PySem.W.keepIn K (.ref f_law) = true)
    (kC_Counts : PySem.W.keepIn K (.ref C_Counts) = true)
    (pg_Counts : PySem.W.plainGet K C_Counts Str.empty = true)
    (hd_Counts : PySem.W.hasDictIn K C_Counts = true)
    (po_Counts : PySem.W.plainOver K C_Counts = true)
    (sa_Counts : PySem.W.findIn K (.ref C_Counts) "__setattr__" = some (some (.builtin "object.__setattr__")))
    (mk_Counts : PySem.W.makesIn K C_Counts = true)
    (ha_Counts : PySem.W.findIn K (.ref C_Counts) "__class__" = some (some (.builtin "object.__class__")))
    (hm_Counts : PySem.W.mroIn K C_Counts (.type "object") = some true)
    (ty_Counts : PySem.W.typeIn K (.ref C_Counts) = some (.type "type"))
    (nt_NoneType_Counts : PySem.W.subIn K (.type "NoneType") (.ref C_Counts) = some false)
    (nt_bool_Counts : PySem.W.subIn K (.type "bool") (.ref C_Counts) = some false)
    (nt_int_Counts : PySem.W.subIn K (.type "int") (.ref C_Counts) = some false)
    (nt_str_Counts : PySem.W.subIn K (.type "str") (.ref C_Counts) = some false)
    (nt_list_Counts : PySem.W.subIn K (.type "list") (.ref C_Counts) = some false)
    (nt_tuple_Counts : PySem.W.subIn K (.type "tuple") (.ref C_Counts) = some false)
    (nt_dict_Counts : PySem.W.subIn K (.type "dict") (.ref C_Counts) = some false)
    (n_Counts__numbers : PySem.W.findIn K (.ref C_Counts) "_numbers" = some none)
    (kC_HallError : PySem.W.keepIn K (.ref C_HallError) = true)
    (kC_NoCounts : PySem.W.keepIn K (.ref C_NoCounts) = true)
    (kC_NoMember : PySem.W.keepIn K (.ref C_NoMember) = true)
    (kC_NoNumber : PySem.W.keepIn K (.ref C_NoNumber) = true)
    (kC_Unlike : PySem.W.keepIn K (.ref C_Unlike) = true)
    (exC_HallError : PySem.W.subIn K (.ref C_HallError) (.type "BaseException") = some true)
    (hdx_HallError : PySem.W.hasDictIn K C_HallError = true)
    (ty_HallError : PySem.W.typeIn K (.ref C_HallError) = some (.type "type"))
    (ss_HallError : PySem.W.subIn K (.ref C_HallError) (.ref C_HallError) = some true)
    (exC_NoCounts : PySem.W.subIn K (.ref C_NoCounts) (.type "BaseException") = some true)
    (hdx_NoCounts : PySem.W.hasDictIn K C_NoCounts = true)
    (ty_NoCounts : PySem.W.typeIn K (.ref C_NoCounts) = some (.type "type"))
    (ss_NoCounts : PySem.W.subIn K (.ref C_NoCounts) (.ref C_NoCounts) = some true)
    (exC_NoMember : PySem.W.subIn K (.ref C_NoMember) (.type "BaseException") = some true)
    (hdx_NoMember : PySem.W.hasDictIn K C_NoMember = true)
    (ty_NoMember : PySem.W.typeIn K (.ref C_NoMember) = some (.type "type"))
    (ss_NoMember : PySem.W.subIn K (.ref C_NoMember) (.ref C_NoMember) = some true)
    (exC_NoNumber : PySem.W.subIn K (.ref C_NoNumber) (.type "BaseException") = some true)
    (hdx_NoNumber : PySem.W.hasDictIn K C_NoNumber = true)
    (ty_NoNumber : PySem.W.typeIn K (.ref C_NoNumber) = some (.type "type"))
    (ss_NoNumber : PySem.W.subIn K (.ref C_NoNumber) (.ref C_NoNumber) = some true)
    (exC_Unlike : PySem.W.subIn K (.ref C_Unlike) (.type "BaseException") = some true)
    (hdx_Unlike : PySem.W.hasDictIn K C_Unlike = true)
    (ty_Unlike : PySem.W.typeIn K (.ref C_Unlike) = some (.type "type"))
    (ss_Unlike : PySem.W.subIn K (.ref C_Unlike) (.ref C_Unlike) = some true)
    (opq : PySem.W.nsIn K PySem.cStatics "thirdparty.any" = some none)
    (xhn : PySem.W.specialIn K (.builtin "object.__class__") "__get__" = some (some (.builtin "getset_descriptor.__get__")))
    (xht : PySem.W.takesIn K (.builtin "object.__class__") = some true)
    (ii_NoCounts : PySem.W.findIn K (.ref C_NoCounts) "__init__" = some (some (.ref fI_NoCounts)))
    (lI_NoCounts : K.lookup fI_NoCounts = some ⟨ocI_NoCounts, odI_NoCounts, .func (PySem.W.ksFn "__init__" "NoCounts.__init__" (defArgs (inClass (topS 5) 0)) (defBody (inClass (topS 5) 0)) (defScope (inClass (topS 5) 0)) .none kVI_NoCounts dcI_NoCounts pmI_NoCounts anI_NoCounts (.ref cda_NoCounts) ctI_NoCounts cc_NoCounts), slI_NoCounts⟩)
    (coI_NoCounts : PySem.W.codeIn K (.ref cda_NoCounts) "NoCounts.__init__" = true)
    (cdI_NoCounts : K.lookup cda_NoCounts = some ⟨cclI_NoCounts, cddI_NoCounts, .fields vsI_NoCounts, ccsI_NoCounts⟩)
    (vfI_NoCounts : vsI_NoCounts[2]? = some (.str (Str.ofString "/claim/cut.py") tfI_NoCounts))
    (clI_NoCounts : K.lookup cc_NoCounts = some ⟨clI_NoCounts, cldI_NoCounts, .cell (some (.ref C_NoCounts)), cslI_NoCounts⟩)
    (in_NoCounts : PySem.W.excInitIn K C_NoCounts veT "ValueError.__new__" = true)
    (ov_NoCounts : PySem.W.excOver K C_NoCounts veT = true)
    (sax_NoCounts : PySem.W.findIn K (.ref C_NoCounts) "__setattr__" = some (some (.builtin "object.__setattr__")))
    (nf_NoCounts : PySem.W.findIn K (.ref C_NoCounts) "found" = some none)
    (sB_NoCounts : PySem.W.subIn K (.ref C_NoCounts) (.type "ValueError") = some true)
    (sC_NoCounts : PySem.W.mroIn K C_NoCounts (.ref C_NoCounts) = some true)
    (ti_NoCounts : PySem.W.typeIn K (.ref fI_NoCounts) = some (.type "function"))
    (sup_NoCounts : PySem.W.ks_superIn K C_NoCounts C_NoCounts "__init__" = some (some (.builtin "ValueError.__init__")))
    (xga_NoCounts : PySem.W.findIn K (.ref C_NoCounts) "__getattribute__" = some (some (.builtin "BaseException.__getattribute__")))
    (xgg_NoCounts : PySem.W.findIn K (.ref C_NoCounts) "__getattr__" = some none)
    (xha_NoCounts : PySem.W.findIn K (.ref C_NoCounts) "__class__" = some (some (.builtin "object.__class__")))
    (xhm_NoCounts : PySem.W.mroIn K C_NoCounts (.type "object") = some true)
    (sb_NoCounts_HallError : PySem.W.subIn K (.ref C_NoCounts) (.ref C_HallError) = some true)
    (sb_NoCounts_NoCounts : PySem.W.subIn K (.ref C_NoCounts) (.ref C_NoCounts) = some true)
    (sb_NoCounts_NoMember : PySem.W.subIn K (.ref C_NoCounts) (.ref C_NoMember) = some false)
    (sb_NoCounts_NoNumber : PySem.W.subIn K (.ref C_NoCounts) (.ref C_NoNumber) = some false)
    (sb_NoCounts_Unlike : PySem.W.subIn K (.ref C_NoCounts) (.ref C_Unlike) = some false)
    (ii_NoMember : PySem.W.findIn K (.ref C_NoMember) "__init__" = some (some (.ref fI_NoMember)))
    (lI_NoMember : K.lookup fI_NoMember = some ⟨ocI_NoMember, odI_NoMember, .func (PySem.W.ksFn "__init__" "NoMember.__init__" (defArgs (inClass (topS 4) 0)) (defBody (inClass (topS 4) 0)) (defScope (inClass (topS 4) 0)) .none kVI_NoMember dcI_NoMember pmI_NoMember anI_NoMember (.ref cda_NoMember) ctI_NoMember cc_NoMember), slI_NoMember⟩)
    (coI_NoMember : PySem.W.codeIn K (.ref cda_NoMember) "NoMember.__init__" = true)
    (cdI_NoMember : K.lookup cda_NoMember = some ⟨cclI_NoMember, cddI_NoMember, .fields vsI_NoMember, ccsI_NoMember⟩)
    (vfI_NoMember : vsI_NoMember[2]? = some (.str (Str.ofString "/claim/cut.py") tfI_NoMember))
    (clI_NoMember : K.lookup cc_NoMember = some ⟨clI_NoMember, cldI_NoMember, .cell (some (.ref C_NoMember)), cslI_NoMember⟩)
    (in_NoMember : PySem.W.excInitIn K C_NoMember veT "ValueError.__new__" = true)
    (ov_NoMember : PySem.W.excOver K C_NoMember veT = true)
    (sax_NoMember : PySem.W.findIn K (.ref C_NoMember) "__setattr__" = some (some (.builtin "object.__setattr__")))
    (nf_NoMember : PySem.W.findIn K (.ref C_NoMember) "found" = some none)
    (sB_NoMember : PySem.W.subIn K (.ref C_NoMember) (.type "ValueError") = some true)
    (sC_NoMember : PySem.W.mroIn K C_NoMember (.ref C_NoMember) = some true)
    (ti_NoMember : PySem.W.typeIn K (.ref fI_NoMember) = some (.type "function"))
    (sup_NoMember : PySem.W.ks_superIn K C_NoMember C_NoMember "__init__" = some (some (.builtin "ValueError.__init__")))
    (xga_NoMember : PySem.W.findIn K (.ref C_NoMember) "__getattribute__" = some (some (.builtin "BaseException.__getattribute__")))
    (xgg_NoMember : PySem.W.findIn K (.ref C_NoMember) "__getattr__" = some none)
    (xha_NoMember : PySem.W.findIn K (.ref C_NoMember) "__class__" = some (some (.builtin "object.__class__")))
    (xhm_NoMember : PySem.W.mroIn K C_NoMember (.type "object") = some true)
    (sb_NoMember_HallError : PySem.W.subIn K (.ref C_NoMember) (.ref C_HallError) = some true)
    (sb_NoMember_NoCounts : PySem.W.subIn K (.ref C_NoMember) (.ref C_NoCounts) = some false)
    (sb_NoMember_NoMember : PySem.W.subIn K (.ref C_NoMember) (.ref C_NoMember) = some true)
    (sb_NoMember_NoNumber : PySem.W.subIn K (.ref C_NoMember) (.ref C_NoNumber) = some false)
    (sb_NoMember_Unlike : PySem.W.subIn K (.ref C_NoMember) (.ref C_Unlike) = some false)
    (ii_NoNumber : PySem.W.findIn K (.ref C_NoNumber) "__init__" = some (some (.ref fI_NoNumber)))
    (lI_NoNumber : K.lookup fI_NoNumber = some ⟨ocI_NoNumber, odI_NoNumber, .func (PySem.W.ksFn "__init__" "NoNumber.__init__" (defArgs (inClass (topS 3) 0)) (defBody (inClass (topS 3) 0)) (defScope (inClass (topS 3) 0)) .none kVI_NoNumber dcI_NoNumber pmI_NoNumber anI_NoNumber (.ref cda_NoNumber) ctI_NoNumber cc_NoNumber), slI_NoNumber⟩)
    (coI_NoNumber : PySem.W.codeIn K (.ref cda_NoNumber) "NoNumber.__init__" = true)
    (cdI_NoNumber : K.lookup cda_NoNumber = some ⟨cclI_NoNumber, cddI_NoNumber, .fields vsI_NoNumber, ccsI_NoNumber⟩)
    (vfI_NoNumber : vsI_NoNumber[2]? = some (.str (Str.ofString "/claim/cut.py") tfI_NoNumber))
    (clI_NoNumber : K.lookup cc_NoNumber = some ⟨clI_NoNumber, cldI_NoNumber, .cell (some (.ref C_NoNumber)), cslI_NoNumber⟩)
    (in_NoNumber : PySem.W.excInitIn K C_NoNumber veT "ValueError.__new__" = true)
    (ov_NoNumber : PySem.W.excOver K C_NoNumber veT = true)
    (sax_NoNumber : PySem.W.findIn K (.ref C_NoNumber) "__setattr__" = some (some (.builtin "object.__setattr__")))
    (nf_NoNumber : PySem.W.findIn K (.ref C_NoNumber) "found" = some none)
    (sB_NoNumber : PySem.W.subIn K (.ref C_NoNumber) (.type "ValueError") = some true)
    (sC_NoNumber : PySem.W.mroIn K C_NoNumber (.ref C_NoNumber) = some true)
    (ti_NoNumber : PySem.W.typeIn K (.ref fI_NoNumber) = some (.type "function"))
    (sup_NoNumber : PySem.W.ks_superIn K C_NoNumber C_NoNumber "__init__" = some (some (.builtin "ValueError.__init__")))
    (xga_NoNumber : PySem.W.findIn K (.ref C_NoNumber) "__getattribute__" = some (some (.builtin "BaseException.__getattribute__")))
    (xgg_NoNumber : PySem.W.findIn K (.ref C_NoNumber) "__getattr__" = some none)
    (xha_NoNumber : PySem.W.findIn K (.ref C_NoNumber) "__class__" = some (some (.builtin "object.__class__")))
    (xhm_NoNumber : PySem.W.mroIn K C_NoNumber (.type "object") = some true)
    (sb_NoNumber_HallError : PySem.W.subIn K (.ref C_NoNumber) (.ref C_HallError) = some true)
    (sb_NoNumber_NoCounts : PySem.W.subIn K (.ref C_NoNumber) (.ref C_NoCounts) = some false)
    (sb_NoNumber_NoMember : PySem.W.subIn K (.ref C_NoNumber) (.ref C_NoMember) = some false)
    (sb_NoNumber_NoNumber : PySem.W.subIn K (.ref C_NoNumber) (.ref C_NoNumber) = some true)
    (sb_NoNumber_Unlike : PySem.W.subIn K (.ref C_NoNumber) (.ref C_Unlike) = some false)
    (ii_Unlike : PySem.W.findIn K (.ref C_Unlike) "__init__" = some (some (.ref fI_Unlike)))
    (lI_Unlike : K.lookup fI_Unlike = some ⟨ocI_Unlike, odI_Unlike, .func (PySem.W.ksFn "__init__" "Unlike.__init__" (defArgs (inClass (topS 6) 0)) (defBody (inClass (topS 6) 0)) (defScope (inClass (topS 6) 0)) .none kVI_Unlike dcI_Unlike pmI_Unlike anI_Unlike (.ref cda_Unlike) ctI_Unlike cc_Unlike), slI_Unlike⟩)
    (coI_Unlike : PySem.W.codeIn K (.ref cda_Unlike) "Unlike.__init__" = true)
    (cdI_Unlike : K.lookup cda_Unlike = some ⟨cclI_Unlike, cddI_Unlike, .fields vsI_Unlike, ccsI_Unlike⟩)
    (vfI_Unlike : vsI_Unlike[2]? = some (.str (Str.ofString "/claim/cut.py") tfI_Unlike))
    (clI_Unlike : K.lookup cc_Unlike = some ⟨clI_Unlike, cldI_Unlike, .cell (some (.ref C_Unlike)), cslI_Unlike⟩)
    (in_Unlike : PySem.W.excInitIn K C_Unlike veT "ValueError.__new__" = true)
    (ov_Unlike : PySem.W.excOver K C_Unlike veT = true)
    (sax_Unlike : PySem.W.findIn K (.ref C_Unlike) "__setattr__" = some (some (.builtin "object.__setattr__")))
    (nf_Unlike : PySem.W.findIn K (.ref C_Unlike) "found" = some none)
    (sB_Unlike : PySem.W.subIn K (.ref C_Unlike) (.type "ValueError") = some true)
    (sC_Unlike : PySem.W.mroIn K C_Unlike (.ref C_Unlike) = some true)
    (ti_Unlike : PySem.W.typeIn K (.ref fI_Unlike) = some (.type "function"))
    (sup_Unlike : PySem.W.ks_superIn K C_Unlike C_Unlike "__init__" = some (some (.builtin "ValueError.__init__")))
    (xga_Unlike : PySem.W.findIn K (.ref C_Unlike) "__getattribute__" = some (some (.builtin "BaseException.__getattribute__")))
    (xgg_Unlike : PySem.W.findIn K (.ref C_Unlike) "__getattr__" = some none)
    (xha_Unlike : PySem.W.findIn K (.ref C_Unlike) "__class__" = some (some (.builtin "object.__class__")))
    (xhm_Unlike : PySem.W.mroIn K C_Unlike (.type "object") = some true)
    (sb_Unlike_HallError : PySem.W.subIn K (.ref C_Unlike) (.ref C_HallError) = some true)
    (sb_Unlike_NoCounts : PySem.W.subIn K (.ref C_Unlike) (.ref C_NoCounts) = some false)
    (sb_Unlike_NoMember : PySem.W.subIn K (.ref C_Unlike) (.ref C_NoMember) = some false)
    (sb_Unlike_NoNumber : PySem.W.subIn K (.ref C_Unlike) (.ref C_NoNumber) = some false)
    (sb_Unlike_Unlike : PySem.W.subIn K (.ref C_Unlike) (.ref C_Unlike) = some true)
    (x_hn : PySem.W.specialIn K (.builtin "object.__class__") "__get__" = some (some (.builtin "getset_descriptor.__get__")))
    (x_htk : PySem.W.takesIn K (.builtin "object.__class__") = some true)
    (x_ki_Counts : PySem.W.subIn K (.ref C_Counts) (.type "int") = some false)
    (x_kl_Counts : PySem.W.subIn K (.ref C_Counts) (.type "list") = some false)
    (x_kt_Counts : PySem.W.subIn K (.ref C_Counts) (.type "tuple") = some false)
    (x_ne_Counts : PySem.W.findIn K (.ref C_Counts) "__ne__" = some (some (.builtin "object.__ne__")))
    (z_all : PySem.W.nsIn K mainGlobals "all" = some none)
    (z_bool : PySem.W.nsIn K mainGlobals "bool" = some none)
    (z_enumerate : PySem.W.nsIn K mainGlobals "enumerate" = some none)
    (z_int : PySem.W.nsIn K mainGlobals "int" = some none)
    (z_isinstance : PySem.W.nsIn K mainGlobals "isinstance" = some none)
    (z_len : PySem.W.nsIn K mainGlobals "len" = some none)
    (z_list : PySem.W.nsIn K mainGlobals "list" = some none)
    (z_max : PySem.W.nsIn K mainGlobals "max" = some none)
    (z_range : PySem.W.nsIn K mainGlobals "range" = some none)
    (z_super : PySem.W.nsIn K mainGlobals "super" = some none)
    (z_tuple : PySem.W.nsIn K mainGlobals "tuple" = some none)
    (g_LEAST_MEMBERS : PySem.W.nsIn K mainGlobals "LEAST_MEMBERS" = some (some (.int 2 t_LEAST_MEMBERS)))
    (g_MOST_MEMBERS : PySem.W.nsIn K mainGlobals "MOST_MEMBERS" = some (some (.int 5 t_MOST_MEMBERS))) :
    ∃ fd : FuncData, (∀ (s : Shared) (v : Value), BindsTo s fd ⟨[v], []⟩ [("script", v)]) ∧ ∀ base : Heap, K.In base → base.Ns mainGlobals mg → FnOk l.prog w K mg base CX0 11 fa fd ["script"] (sp_law K) := by
  have ee := hfa.symm.trans (PySem.W.mg_of X G a_law)
  cases ee
  have F_is_whole : FunD K "is_whole" "is_whole" (defArgs s_is_whole) (defBody s_is_whole) (defScope s_is_whole) [.non] [] f_is_whole _ := ⟨⟨_, _, _, _, _, _, _, _, _, _, rfl, l_is_whole, c_is_whole, .inr ⟨(by intro z; cases z), _, _, _, _, rfl, e_is_whole, rfl, (.cons rfl .nil)⟩, .inl rfl⟩, k_is_whole⟩
  obtain ⟨ds_is_whole_2, v_is_whole_2, b_is_whole_2⟩ := F_is_whole.binds1 (ps := ["thing", "low", "high"]) 2 0 (by intro z; cases z) rfl (fun _ _ _ _ _ _ _ us its h1 h2 => match us, its, h1, h2 with | [_, _], [_], _, _ => ⟨_, rfl, rfl⟩)
  obtain ⟨ds_is_whole, v_is_whole, b_is_whole⟩ := F_is_whole.binds1 (ps := ["thing", "low", "high"]) 3 1 (by intro z; cases z) rfl (fun _ _ _ _ _ _ _ us its h1 h2 => match us, its, h1, h2 with | [_, _, _], [_], _, _ => ⟨_, rfl, rfl⟩)
  cases v_is_whole
  have F_is_list := fun_mk (st := s_is_list) l_is_list c_is_list k_is_list
  have b_is_list := F_is_list.binds (ps := ["thing"]) fun _ _ _ _ _ _ us hl => match us, hl with | [_], _ => rfl
  have F_is_member := fun_mk (st := s_is_member) l_is_member c_is_member k_is_member
  have b_is_member := F_is_member.binds (ps := ["thing", "members"]) fun _ _ _ _ _ _ us hl => match us, hl with | [_, _], _ => rfl
  have F_check_member := fun_mk (st := s_check_member) l_check_member c_check_member k_check_member
  have b_check_member := F_check_member.binds (ps := ["member", "members"]) fun _ _ _ _ _ _ us hl => match us, hl with | [_, _], _ => rfl
  have F_are_changes : FunD K "are_changes" "are_changes" (defArgs s_are_changes) (defBody s_are_changes) (defScope s_are_changes) [.non] [] f_are_changes _ := ⟨⟨_, _, _, _, _, _, _, _, _, _, rfl, l_are_changes, c_are_changes, .inr ⟨(by intro z; cases z), _, _, _, _, rfl, e_are_changes, rfl, (.cons rfl .nil)⟩, .inl rfl⟩, k_are_changes⟩
  obtain ⟨ds_are_changes_3, v_are_changes_3, b_are_changes_3⟩ := F_are_changes.binds1 (ps := ["thing", "members", "low", "high"]) 3 0 (by intro z; cases z) rfl (fun _ _ _ _ _ _ _ us its h1 h2 => match us, its, h1, h2 with | [_, _, _], [_], _, _ => ⟨_, rfl, rfl⟩)
  obtain ⟨ds_are_changes, v_are_changes, b_are_changes⟩ := F_are_changes.binds1 (ps := ["thing", "members", "low", "high"]) 4 1 (by intro z; cases z) rfl (fun _ _ _ _ _ _ _ us its h1 h2 => match us, its, h1, h2 with | [_, _, _, _], [_], _, _ => ⟨_, rfl, rfl⟩)
  cases v_are_changes
  have F_Counts_init := fun_mk (st := s_Counts_init) l_Counts_init c_Counts_init k_Counts_init
  have b_Counts_init := F_Counts_init.binds (ps := ["self", "numbers"]) fun _ _ _ _ _ _ us hl => match us, hl with | [_, _], _ => rfl
  have F_Counts_len := fun_mk (st := s_Counts_len) l_Counts_len c_Counts_len k_Counts_len
  have b_Counts_len := F_Counts_len.binds (ps := ["self"]) fun _ _ _ _ _ _ us hl => match us, hl with | [_], _ => rfl
  have F_Counts_told := fun_mk (st := s_Counts_told) l_Counts_told c_Counts_told k_Counts_told
  have b_Counts_told := F_Counts_told.binds (ps := ["self"]) fun _ _ _ _ _ _ us hl => match us, hl with | [_], _ => rfl
  have F_Counts_eq := fun_mk (st := s_Counts_eq) l_Counts_eq c_Counts_eq k_Counts_eq
  have b_Counts_eq := F_Counts_eq.binds (ps := ["self", "other"]) fun _ _ _ _ _ _ us hl => match us, hl with | [_, _], _ => rfl
  have F_Counts_of := fun_mk (st := s_Counts_of) l_Counts_of c_Counts_of k_Counts_of
  have b_Counts_of := F_Counts_of.binds (ps := ["self", "member"]) fun _ _ _ _ _ _ us hl => match us, hl with | [_, _], _ => rfl
  have F_Counts_changed := fun_mk (st := s_Counts_changed) l_Counts_changed c_Counts_changed k_Counts_changed
  have b_Counts_changed := F_Counts_changed.binds (ps := ["self", "changes"]) fun _ _ _ _ _ _ us hl => match us, hl with | [_, _], _ => rfl
  have F_Counts_raised : FunD K "raised" "Counts.raised" (defArgs s_Counts_raised) (defBody s_Counts_raised) (defScope s_Counts_raised) [.int 1] [] f_Counts_raised _ := ⟨⟨_, _, _, _, _, _, _, _, _, _, rfl, l_Counts_raised, c_Counts_raised, .inr ⟨(by intro z; cases z), _, _, _, _, rfl, e_Counts_raised, rfl, (.cons ⟨_, rfl⟩ .nil)⟩, .inl rfl⟩, k_Counts_raised⟩
  obtain ⟨ds_Counts_raised_2, v_Counts_raised_2, b_Counts_raised_2⟩ := F_Counts_raised.binds1 (ps := ["self", "member", "by"]) 2 0 (by intro z; cases z) rfl (fun _ _ _ _ _ _ _ us its h1 h2 => match us, its, h1, h2 with | [_, _], [_], _, _ => ⟨_, rfl, rfl⟩)
  obtain ⟨ds_Counts_raised, v_Counts_raised, b_Counts_raised⟩ := F_Counts_raised.binds1 (ps := ["self", "member", "by"]) 3 1 (by intro z; cases z) rfl (fun _ _ _ _ _ _ _ us its h1 h2 => match us, its, h1, h2 with | [_, _, _], [_], _, _ => ⟨_, rfl, rfl⟩)
  cases v_Counts_raised
  have kb_Counts_raised_2_by := F_Counts_raised.kbinds1 (ps := ["self", "member", "by"]) 2 ["by"] (by intro z; cases z) (fun _ _ _ _ _ _ _ us its ws h1 h2 h3 => match us, its, ws, h1, h2, h3 with | [_, _], [_], [_], _, _, _ => ⟨_, rfl, by with_unfolding_all rfl⟩)
  have F_Counts_check_like := fun_mk (st := s_Counts_check_like) l_Counts_check_like c_Counts_check_like k_Counts_check_like
  have b_Counts_check_like := F_Counts_check_like.binds (ps := ["self", "other"]) fun _ _ _ _ _ _ us hl => match us, hl with | [_, _], _ => rfl
  have F_Counts_changes_from := fun_mk (st := s_Counts_changes_from) l_Counts_changes_from c_Counts_changes_from k_Counts_changes_from
  have b_Counts_changes_from := F_Counts_changes_from.binds (ps := ["self", "other"]) fun _ _ _ _ _ _ us hl => match us, hl with | [_, _], _ => rfl
  have F_law_take := fun_mk (st := s_law_take) l_law_take c_law_take k_law_take
  have b_law_take := F_law_take.binds (ps := ["pool", "size"]) fun _ _ _ _ _ _ us hl => match us, hl with | [_, _], _ => rfl
  have F_law_pool := fun_mk (st := s_law_pool) l_law_pool c_law_pool k_law_pool
  have b_law_pool := F_law_pool.binds (ps := ["cell"]) fun _ _ _ _ _ _ us hl => match us, hl with | [_], _ => rfl
  have F_law_numbers := fun_mk (st := s_law_numbers) l_law_numbers c_law_numbers k_law_numbers
  have b_law_numbers := F_law_numbers.binds (ps := ["pool", "members"]) fun _ _ _ _ _ _ us hl => match us, hl with | [_, _], _ => rfl
  have F_law_near := fun_mk (st := s_law_near) l_law_near c_law_near k_law_near
  have b_law_near := F_law_near.binds (ps := ["row", "pool"]) fun _ _ _ _ _ _ us hl => match us, hl with | [_, _], _ => rfl
  have F_law_first := fun_mk (st := s_law_first) l_law_first c_law_first k_law_first
  have b_law_first := F_law_first.binds (ps := ["deed", "counts", "things"]) fun _ _ _ _ _ _ us hl => match us, hl with | [_, _, _], _ => rfl
  have F_law_refused := fun_mk (st := s_law_refused) l_law_refused c_law_refused k_law_refused
  have b_law_refused := F_law_refused.binds (ps := ["deed", "counts", "things", "at", "thing"]) fun _ _ _ _ _ _ us hl => match us, hl with | [_, _, _, _, _], _ => rfl
  have F_law_raised := fun_mk (st := s_law_raised) l_law_raised c_law_raised k_law_raised
  have b_law_raised := F_law_raised.binds (ps := ["counts", "row", "pool"]) fun _ _ _ _ _ _ us hl => match us, hl with | [_, _, _], _ => rfl
  have F_law_from := fun_mk (st := s_law_from) l_law_from c_law_from k_law_from
  have b_law_from := F_law_from.binds (ps := ["counts", "row", "rival", "other"]) fun _ _ _ _ _ _ us hl => match us, hl with | [_, _, _, _], _ => rfl
  have F_law_some := fun_mk (st := s_law_some) l_law_some c_law_some k_law_some
  have b_law_some := F_law_some.binds (ps := ["row", "pool"]) fun _ _ _ _ _ _ us hl => match us, hl with | [_, _], _ => rfl
  have F_law_changed := fun_mk (st := s_law_changed) l_law_changed c_law_changed k_law_changed
  have b_law_changed := F_law_changed.binds (ps := ["counts", "row", "pool"]) fun _ _ _ _ _ _ us hl => match us, hl with | [_, _, _], _ => rfl
  have F_law := fun_mk (st := s_law) l_law c_law k_law
  have b_law := F_law.binds (ps := ["script"]) fun _ _ _ _ _ _ us hl => match us, hl with | [_], _ => rfl
  have g_Counts := PySem.W.mg_of X G aC_Counts
  have hdx_Counts := hd_Counts
  have c_Counts : Cls K C_Counts := ⟨pg_Counts, hd_Counts, po_Counts, sa_Counts⟩
  have mkk_Counts : Mk K C_Counts f_Counts_init := ⟨mk_Counts, a_Counts_init, i_Counts_init, kC_Counts⟩
  have mt_Counts_len : Meth K C_Counts "__len__" f_Counts_len := ⟨a_Counts_len, i_Counts_len, k_Counts_len⟩
  have mt_Counts_told : Meth K C_Counts "told" f_Counts_told := ⟨a_Counts_told, i_Counts_told, k_Counts_told⟩
  have mt_Counts_eq : Meth K C_Counts "__eq__" f_Counts_eq := ⟨a_Counts_eq, i_Counts_eq, k_Counts_eq⟩
  have mt_Counts_of : Meth K C_Counts "of" f_Counts_of := ⟨a_Counts_of, i_Counts_of, k_Counts_of⟩
  have mt_Counts_changed : Meth K C_Counts "changed" f_Counts_changed := ⟨a_Counts_changed, i_Counts_changed, k_Counts_changed⟩
  have mt_Counts_raised : Meth K C_Counts "raised" f_Counts_raised := ⟨a_Counts_raised, i_Counts_raised, k_Counts_raised⟩
  have mt_Counts_check_like : Meth K C_Counts "_check_like" f_Counts_check_like := ⟨a_Counts_check_like, i_Counts_check_like, k_Counts_check_like⟩
  have mt_Counts_changes_from : Meth K C_Counts "changes_from" f_Counts_changes_from := ⟨a_Counts_changes_from, i_Counts_changes_from, k_Counts_changes_from⟩
  have g_HallError := PySem.W.mg_of X G aC_HallError
  have g_NoCounts := PySem.W.mg_of X G aC_NoCounts
  have g_NoMember := PySem.W.mg_of X G aC_NoMember
  have g_NoNumber := PySem.W.mg_of X G aC_NoNumber
  have g_Unlike := PySem.W.mg_of X G aC_Unlike
  have ox_NoCounts : OexS K C_NoCounts fI_NoCounts "ValueError" "ValueError.__new__" "ValueError.__init__" _ "found" := {
    base := PySem.F.excBase_ValueError, wrap := PySem.W.kxs_ValueError, stor := PySem.F.store_ValueError, ini := in_NoCounts, over := ov_NoCounts, hd := hdx_NoCounts, sa := sax_NoCounts, nf := nf_NoCounts, exC := exC_NoCounts, sB := sB_NoCounts, sC := sC_NoCounts, tyC := ty_NoCounts, kC := kC_NoCounts, ii := ii_NoCounts, ti := ti_NoCounts, sup := sup_NoCounts, opq := opq,
    fn := ⟨⟨_, _, _, _, _, _, _, _, _, _, _, _, _, _, _, _, _, _, _, _, _, _, _, _, _, _, _, _, _, _, _, _, _, _, _, lI_NoCounts, coI_NoCounts, cdI_NoCounts, vfI_NoCounts, clI_NoCounts, fun _ _ _ => .of_eq rfl, fun _ _ _ => .of_eq rfl, ⟨_, fun _ => rfl⟩, rfl, rfl, rfl, by decide +kernel, by decide +kernel, by decide +kernel, by decide +kernel, by decide +kernel⟩⟩ }
  have xf_NoCounts : XfC K C_NoCounts := ⟨xga_NoCounts, xgg_NoCounts, exC_NoCounts, hdx_NoCounts⟩
  have xc_NoCounts : ExcC K C_NoCounts := ⟨xga_NoCounts, xgg_NoCounts, exC_NoCounts, hdx_NoCounts, xha_NoCounts, xhn, xht, xhm_NoCounts⟩
  have ox_NoMember : OexS K C_NoMember fI_NoMember "ValueError" "ValueError.__new__" "ValueError.__init__" _ "found" := {
    base := PySem.F.excBase_ValueError, wrap := PySem.W.kxs_ValueError, stor := PySem.F.store_ValueError, ini := in_NoMember, over := ov_NoMember, hd := hdx_NoMember, sa := sax_NoMember, nf := nf_NoMember, exC := exC_NoMember, sB := sB_NoMember, sC := sC_NoMember, tyC := ty_NoMember, kC := kC_NoMember, ii := ii_NoMember, ti := ti_NoMember, sup := sup_NoMember, opq := opq,
    fn := ⟨⟨_, _, _, _, _, _, _, _, _, _, _, _, _, _, _, _, _, _, _, _, _, _, _, _, _, _, _, _, _, _, _, _, _, _, _, lI_NoMember, coI_NoMember, cdI_NoMember, vfI_NoMember, clI_NoMember, fun _ _ _ => .of_eq rfl, fun _ _ _ => .of_eq rfl, ⟨_, fun _ => rfl⟩, rfl, rfl, rfl, by decide +kernel, by decide +kernel, by decide +kernel, by decide +kernel, by decide +kernel⟩⟩ }
  have xf_NoMember : XfC K C_NoMember := ⟨xga_NoMember, xgg_NoMember, exC_NoMember, hdx_NoMember⟩
  have xc_NoMember : ExcC K C_NoMember := ⟨xga_NoMember, xgg_NoMember, exC_NoMember, hdx_NoMember, xha_NoMember, xhn, xht, xhm_NoMember⟩
  have ox_NoNumber : OexS K C_NoNumber fI_NoNumber "ValueError" "ValueError.__new__" "ValueError.__init__" _ "found" := {
    base := PySem.F.excBase_ValueError, wrap := PySem.W.kxs_ValueError, stor := PySem.F.store_ValueError, ini := in_NoNumber, over := ov_NoNumber, hd := hdx_NoNumber, sa := sax_NoNumber, nf := nf_NoNumber, exC := exC_NoNumber, sB := sB_NoNumber, sC := sC_NoNumber, tyC := ty_NoNumber, kC := kC_NoNumber, ii := ii_NoNumber, ti := ti_NoNumber, sup := sup_NoNumber, opq := opq,
    fn := ⟨⟨_, _, _, _, _, _, _, _, _, _, _, _, _, _, _, _, _, _, _, _, _, _, _, _, _, _, _, _, _, _, _, _, _, _, _, lI_NoNumber, coI_NoNumber, cdI_NoNumber, vfI_NoNumber, clI_NoNumber, fun _ _ _ => .of_eq rfl, fun _ _ _ => .of_eq rfl, ⟨_, fun _ => rfl⟩, rfl, rfl, rfl, by decide +kernel, by decide +kernel, by decide +kernel, by decide +kernel, by decide +kernel⟩⟩ }
  have xf_NoNumber : XfC K C_NoNumber := ⟨xga_NoNumber, xgg_NoNumber, exC_NoNumber, hdx_NoNumber⟩
  have xc_NoNumber : ExcC K C_NoNumber := ⟨xga_NoNumber, xgg_NoNumber, exC_NoNumber, hdx_NoNumber, xha_NoNumber, xhn, xht, xhm_NoNumber⟩
  have ox_Unlike : OexS K C_Unlike fI_Unlike "ValueError" "ValueError.__new__" "ValueError.__init__" _ "found" := {
    base := PySem.F.excBase_ValueError, wrap := PySem.W.kxs_ValueError, stor := PySem.F.store_ValueError, ini := in_Unlike, over := ov_Unlike, hd := hdx_Unlike, sa := sax_Unlike, nf := nf_Unlike, exC := exC_Unlike, sB := sB_Unlike, sC := sC_Unlike, tyC := ty_Unlike, kC := kC_Unlike, ii := ii_Unlike, ti := ti_Unlike, sup := sup_Unlike, opq := opq,
    fn := ⟨⟨_, _, _, _, _, _, _, _, _, _, _, _, _, _, _, _, _, _, _, _, _, _, _, _, _, _, _, _, _, _, _, _, _, _, _, lI_Unlike, coI_Unlike, cdI_Unlike, vfI_Unlike, clI_Unlike, fun _ _ _ => .of_eq rfl, fun _ _ _ => .of_eq rfl, ⟨_, fun _ => rfl⟩, rfl, rfl, rfl, by decide +kernel, by decide +kernel, by decide +kernel, by decide +kernel, by decide +kernel⟩⟩ }
  have xf_Unlike : XfC K C_Unlike := ⟨xga_Unlike, xgg_Unlike, exC_Unlike, hdx_Unlike⟩
  have xc_Unlike : ExcC K C_Unlike := ⟨xga_Unlike, xgg_Unlike, exC_Unlike, hdx_Unlike, xha_Unlike, xhn, xht, xhm_Unlike⟩
  let T : Tx K mg := { f_is_whole := f_is_whole, d_is_whole := _, F_is_whole := F_is_whole, m_is_whole := PySem.W.mg_of X G a_is_whole, k_is_whole := k_is_whole, ds_is_whole_2 := ds_is_whole_2, v_is_whole_2 := v_is_whole_2, b_is_whole_2 := b_is_whole_2, b_is_whole := b_is_whole, f_is_list := f_is_list, d_is_list := _, F_is_list := F_is_list, m_is_list := PySem.W.mg_of X G a_is_list, k_is_list := k_is_list, b_is_list := b_is_list, f_is_member := f_is_member, d_is_member := _, F_is_member := F_is_member, m_is_member := PySem.W.mg_of X G a_is_member, k_is_member := k_is_member, b_is_member := b_is_member, f_check_member := f_check_member, d_check_member := _, F_check_member := F_check_member, m_check_member := PySem.W.mg_of X G a_check_member, k_check_member := k_check_member, b_check_member := b_check_member, f_are_changes := f_are_changes, d_are_changes := _, F_are_changes := F_are_changes, m_are_changes := PySem.W.mg_of X G a_are_changes, k_are_changes := k_are_changes, ds_are_changes_3 := ds_are_changes_3, v_are_changes_3 := v_are_changes_3, b_are_changes_3 := b_are_changes_3, b_are_changes := b_are_changes, f_Counts_init := f_Counts_init, d_Counts_init := _, F_Counts_init := F_Counts_init, b_Counts_init := b_Counts_init, f_Counts_len := f_Counts_len, d_Counts_len := _, F_Counts_len := F_Counts_len, b_Counts_len := b_Counts_len, f_Counts_told := f_Counts_told, d_Counts_told := _, F_Counts_told := F_Counts_told, b_Counts_told := b_Counts_told, f_Counts_eq := f_Counts_eq, d_Counts_eq := _, F_Counts_eq := F_Counts_eq, b_Counts_eq := b_Counts_eq, f_Counts_of := f_Counts_of, d_Counts_of := _, F_Counts_of := F_Counts_of, b_Counts_of := b_Counts_of, f_Counts_changed := f_Counts_changed, d_Counts_changed := _, F_Counts_changed := F_Counts_changed, b_Counts_changed := b_Counts_changed, f_Counts_raised := f_Counts_raised, d_Counts_raised := _, F_Counts_raised := F_Counts_raised, ds_Counts_raised_2 := ds_Counts_raised_2, v_Counts_raised_2 := v_Counts_raised_2, b_Counts_raised_2 := b_Counts_raised_2, b_Counts_raised := b_Counts_raised, kb_Counts_raised_2_by := kb_Counts_raised_2_by, f_Counts_check_like := f_Counts_check_like, d_Counts_check_like := _, F_Counts_check_like := F_Counts_check_like, b_Counts_check_like := b_Counts_check_like, f_Counts_changes_from := f_Counts_changes_from, d_Counts_changes_from := _, F_Counts_changes_from := F_Counts_changes_from, b_Counts_changes_from := b_Counts_changes_from, f_law_take := f_law_take, d_law_take := _, F_law_take := F_law_take, m_law_take := PySem.W.mg_of X G a_law_take, k_law_take := k_law_take, b_law_take := b_law_take, f_law_pool := f_law_pool, d_law_pool := _, F_law_pool := F_law_pool, m_law_pool := PySem.W.mg_of X G a_law_pool, k_law_pool := k_law_pool, b_law_pool := b_law_pool, f_law_numbers := f_law_numbers, d_law_numbers := _, F_law_numbers := F_law_numbers, m_law_numbers := PySem.W.mg_of X G a_law_numbers, k_law_numbers := k_law_numbers, b_law_numbers := b_law_numbers, f_law_near := f_law_near, d_law_near := _, F_law_near := F_law_near, m_law_near := PySem.W.mg_of X G a_law_near, k_law_near := k_law_near, b_law_near := b_law_near, f_law_first := f_law_first, d_law_first := _, F_law_first := F_law_first, m_law_first := PySem.W.mg_of X G a_law_first, k_law_first := k_law_first, b_law_first := b_law_first, f_law_refused := f_law_refused, d_law_refused := _, F_law_refused := F_law_refused, m_law_refused := PySem.W.mg_of X G a_law_refused, k_law_refused := k_law_refused, b_law_refused := b_law_refused, f_law_raised := f_law_raised, d_law_raised := _, F_law_raised := F_law_raised, m_law_raised := PySem.W.mg_of X G a_law_raised, k_law_raised := k_law_raised, b_law_raised := b_law_raised, f_law_from := f_law_from, d_law_from := _, F_law_from := F_law_from, m_law_from := PySem.W.mg_of X G a_law_from, k_law_from := k_law_from, b_law_from := b_law_from, f_law_some := f_law_some, d_law_some := _, F_law_some := F_law_some, m_law_some := PySem.W.mg_of X G a_law_some, k_law_some := k_law_some, b_law_some := b_law_some, f_law_changed := f_law_changed, d_law_changed := _, F_law_changed := F_law_changed, m_law_changed := PySem.W.mg_of X G a_law_changed, k_law_changed := k_law_changed, b_law_changed := b_law_changed, f_law := fa, d_law := _, F_law := F_law, m_law := PySem.W.mg_of X G a_law, k_law := k_law, b_law := b_law, C_Counts := C_Counts, g_Counts := g_Counts, c_Counts := c_Counts, ha_Counts := ha_Counts, hm_Counts := hm_Counts, hdx_Counts := hdx_Counts, ty_Counts := ty_Counts, nt_NoneType_Counts := nt_NoneType_Counts, nt_bool_Counts := nt_bool_Counts, nt_int_Counts := nt_int_Counts, nt_str_Counts := nt_str_Counts, nt_list_Counts := nt_list_Counts, nt_tuple_Counts := nt_tuple_Counts, nt_dict_Counts := nt_dict_Counts, n_Counts__numbers := n_Counts__numbers, mk_Counts := mkk_Counts, mt_Counts_len := mt_Counts_len, mt_Counts_told := mt_Counts_told, mt_Counts_eq := mt_Counts_eq, mt_Counts_of := mt_Counts_of, mt_Counts_changed := mt_Counts_changed, mt_Counts_raised := mt_Counts_raised, mt_Counts_check_like := mt_Counts_check_like, mt_Counts_changes_from := mt_Counts_changes_from, C_HallError := C_HallError, g_HallError := g_HallError, C_NoCounts := C_NoCounts, g_NoCounts := g_NoCounts, C_NoMember := C_NoMember, g_NoMember := g_NoMember, C_NoNumber := C_NoNumber, g_NoNumber := g_NoNumber, C_Unlike := C_Unlike, g_Unlike := g_Unlike, exC_HallError := exC_HallError, hdx_HallError := hdx_HallError, ty_HallError := ty_HallError, ss_HallError := ss_HallError, exC_NoCounts := exC_NoCounts, hdx_NoCounts := hdx_NoCounts, ty_NoCounts := ty_NoCounts, ss_NoCounts := ss_NoCounts, exC_NoMember := exC_NoMember, hdx_NoMember := hdx_NoMember, ty_NoMember := ty_NoMember, ss_NoMember := ss_NoMember, exC_NoNumber := exC_NoNumber, hdx_NoNumber := hdx_NoNumber, ty_NoNumber := ty_NoNumber, ss_NoNumber := ss_NoNumber, exC_Unlike := exC_Unlike, hdx_Unlike := hdx_Unlike, ty_Unlike := ty_Unlike, ss_Unlike := ss_Unlike, fI_NoCounts := fI_NoCounts, ox_NoCounts := ox_NoCounts, xf_NoCounts := xf_NoCounts, xc_NoCounts := xc_NoCounts, nf_NoCounts := nf_NoCounts, sb_NoCounts_HallError := sb_NoCounts_HallError, sb_NoCounts_NoCounts := sb_NoCounts_NoCounts, sb_NoCounts_NoMember := sb_NoCounts_NoMember, sb_NoCounts_NoNumber := sb_NoCounts_NoNumber, sb_NoCounts_Unlike := sb_NoCounts_Unlike, fI_NoMember := fI_NoMember, ox_NoMember := ox_NoMember, xf_NoMember := xf_NoMember, xc_NoMember := xc_NoMember, nf_NoMember := nf_NoMember, sb_NoMember_HallError := sb_NoMember_HallError, sb_NoMember_NoCounts := sb_NoMember_NoCounts, sb_NoMember_NoMember := sb_NoMember_NoMember, sb_NoMember_NoNumber := sb_NoMember_NoNumber, sb_NoMember_Unlike := sb_NoMember_Unlike, fI_NoNumber := fI_NoNumber, ox_NoNumber := ox_NoNumber, xf_NoNumber := xf_NoNumber, xc_NoNumber := xc_NoNumber, nf_NoNumber := nf_NoNumber, sb_NoNumber_HallError := sb_NoNumber_HallError, sb_NoNumber_NoCounts := sb_NoNumber_NoCounts, sb_NoNumber_NoMember := sb_NoNumber_NoMember, sb_NoNumber_NoNumber := sb_NoNumber_NoNumber, sb_NoNumber_Unlike := sb_NoNumber_Unlike, fI_Unlike := fI_Unlike, ox_Unlike := ox_Unlike, xf_Unlike := xf_Unlike, xc_Unlike := xc_Unlike, nf_Unlike := nf_Unlike, sb_Unlike_HallError := sb_Unlike_HallError, sb_Unlike_NoCounts := sb_Unlike_NoCounts, sb_Unlike_NoMember := sb_Unlike_NoMember, sb_Unlike_NoNumber := sb_Unlike_NoNumber, sb_Unlike_Unlike := sb_Unlike_Unlike, hn := x_hn, htk := x_htk, ki_Counts := x_ki_Counts, kl_Counts := x_kl_Counts, kt_Counts := x_kt_Counts, ne_Counts := x_ne_Counts, z_all := PySem.W.mg_none_of X G z_all, z_bool := PySem.W.mg_none_of X G z_bool, z_enumerate := PySem.W.mg_none_of X G z_enumerate, z_int := PySem.W.mg_none_of X G z_int, z_isinstance := PySem.W.mg_none_of X G z_isinstance, z_len := PySem.W.mg_none_of X G z_len, z_list := PySem.W.mg_none_of X G z_list, z_max := PySem.W.mg_none_of X G z_max, z_range := PySem.W.mg_none_of X G z_range, z_super := PySem.W.mg_none_of X G z_super, z_tuple := PySem.W.mg_none_of X G z_tuple, t_LEAST_MEMBERS := t_LEAST_MEMBERS, g_LEAST_MEMBERS := PySem.W.mg_of X G g_LEAST_MEMBERS, t_MOST_MEMBERS := t_MOST_MEMBERS, g_MOST_MEMBERS := PySem.W.mg_of X G g_MOST_MEMBERS }
  exact ⟨_, fun s v => .of_eq rfl, fun base _ _ => ok_law T⟩
theorem walk {l : PySem.W.OpenLaw} [PF l.prog] {q : Program} {loose : List Str} {XP : (Str → Option Value) → Heap → Prop} {YP : World → Heap → Prop} {d : DefRec} {K : Params → PySem.W.Frag} (hn : l.most = some 63) (hdf : d.params.defaults = [])
    (hY : ∀ (w : World) (h : Heap), YP w h → (K w.params).In h)
    (F : ∀ (w : World) (mg : Str → Option Value) (fa : Addr) (h : Heap), (K w.params).In h → h.Ns mainGlobals mg → mg d.name = some (.ref fa) →
      ∃ fd : FuncData, (∀ (s : Shared) (u : Value), BindsTo s fd ⟨[u], []⟩ [("script", u)]) ∧ ∀ base : Heap, (K w.params).In base → base.Ns mainGlobals mg → FnOk l.prog w (K w.params) mg base CX0 11 fa fd ["script"] (sp_law (K w.params))) :
    PySem.W.WalkO q loose XP YP l.row.toRowW d [] (fun f vs => PySem.call f vs) :=
  L2.walk_of (n := 63) (k := 11) (x := "script") (CX := fun _ => CX0) (sp := fun w => sp_law (K w.params)) hn (by decide) hdf ⟨rfl, by decide, by decide⟩ hY F (fun _ _ a ns hl _ hS => ⟨a, ns, rfl, hS, hl, fun _ => rfl⟩) fun _ _ _ _ _ z => z
end CH
instance : CH.PF (PySem.Challenge.rw_causehall_k04_changes).prog := ⟨by rfl, by decide +kernel⟩
open PySem PySem.W PyProof.Rows
set_option maxRecDepth 100000 in
set_option maxHeartbeats 0 in
theorem PySem.Challenge.cw_causehall_k04_changes_holds : PySem.Challenge.rw_causehall_k04_changes.Holds := by
  w_on; o_law; k_head; (case hw => w_witness2)
  k_fill
  refine CH.walk (l := PySem.Challenge.rw_causehall_k04_changes) rfl rfl (fun w h Y => PySem.W.kIn_of Y) ?F
  case F =>
    intro w mg fa h KX G hmg
    refine' CH.all_mk KX G hmg ?aC_Unlike ?aC_NoNumber ?aC_NoMember ?aC_NoCounts ?aC_HallError ?aC_Counts ?a_is_whole ?l_is_whole ?c_is_whole ?k_is_whole ?e_is_whole ?a_is_list ?l_is_list ?c_is_list ?k_is_list ?a_is_member ?l_is_member ?c_is_member ?k_is_member ?a_check_member ?l_check_member ?c_check_member ?k_check_member ?a_are_changes ?l_are_changes ?c_are_changes ?k_are_changes ?e_are_changes ?a_Counts_init ?i_Counts_init ?l_Counts_init ?c_Counts_init ?k_Counts_init ?a_Counts_len ?i_Counts_len ?l_Counts_len ?c_Counts_len ?k_Counts_len ?a_Counts_told ?i_Counts_told ?l_Counts_told ?c_Counts_told ?k_Counts_told ?a_Counts_eq ?i_Counts_eq ?l_Counts_eq ?c_Counts_eq ?k_Counts_eq ?a_Counts_of ?i_Counts_of ?l_Counts_of ?c_Counts_of ?k_Counts_of ?a_Counts_changed ?i_Counts_changed ?l_Counts_changed ?c_Counts_changed ?k_Counts_changed ?a_Counts_raised ?i_Counts_raised ?l_Counts_raised ?c_Counts_raised ?k_Counts_raised ?e_Counts_raised ?a_Counts_check_like ?i_Counts_check_like ?l_Counts_check_like ?c_Counts_check_like ?k_Counts_check_like ?a_Counts_changes_from ?i_Counts_changes_from ?l_Counts_changes_from ?c_Counts_changes_from ?k_Counts_changes_from ?a_law_take ?l_law_take ?c_law_take ?k_law_take ?a_law_pool ?l_law_pool ?c_law_pool ?k_law_pool ?a_law_numbers ?l_law_numbers ?c_law_numbers ?k_law_numbers ?a_law_near ?l_law_near ?c_law_near ?k_law_near ?a_law_first ?l_law_first ?c_law_first ?k_law_first ?a_law_refused ?l_law_refused ?c_law_refused ?k_law_refused ?a_law_raised ?l_law_raised ?c_law_raised ?k_law_raised ?a_law_from ?l_law_from ?c_law_from ?k_law_from ?a_law_some ?l_law_some ?c_law_some ?k_law_some ?a_law_changed ?l_law_changed ?c_law_changed ?k_law_changed ?a_law ?l_law ?c_law ?k_law ?kC_Counts ?pg_Counts ?hd_Counts ?po_Counts ?sa_Counts ?mk_Counts ?ha_Counts ?hm_Counts ?ty_Counts ?nt_NoneType_Counts ?nt_bool_Counts ?nt_int_Counts ?nt_str_Counts ?nt_list_Counts ?nt_tuple_Counts ?nt_dict_Counts ?n_Counts__numbers ?kC_HallError ?kC_NoCounts ?kC_NoMember ?kC_NoNumber ?kC_Unlike ?exC_HallError ?hdx_HallError ?ty_HallError ?ss_HallError ?exC_NoCounts ?hdx_NoCounts ?ty_NoCounts ?ss_NoCounts ?exC_NoMember ?hdx_NoMember ?ty_NoMember ?ss_NoMember ?exC_NoNumber ?hdx_NoNumber ?ty_NoNumber ?ss_NoNumber ?exC_Unlike ?hdx_Unlike ?ty_Unlike ?ss_Unlike ?opq ?xhn ?xht ?ii_NoCounts ?lI_NoCounts ?coI_NoCounts ?cdI_NoCounts ?vfI_NoCounts ?clI_NoCounts ?in_NoCounts ?ov_NoCounts ?sax_NoCounts ?nf_NoCounts ?sB_NoCounts ?sC_NoCounts ?ti_NoCounts ?sup_NoCounts ?xga_NoCounts ?xgg_NoCounts ?xha_NoCounts ?xhm_NoCounts ?sb_NoCounts_HallError ?sb_NoCounts_NoCounts ?sb_NoCounts_NoMember ?sb_NoCounts_NoNumber ?sb_NoCounts_Unlike ?ii_NoMember ?lI_NoMember ?coI_NoMember ?cdI_NoMember ?vfI_NoMember ?clI_NoMember ?in_NoMember ?ov_NoMember ?sax_NoMember ?nf_NoMember ?sB_NoMember ?sC_NoMember ?ti_NoMember ?sup_NoMember ?xga_NoMember ?xgg_NoMember ?xha_NoMember ?xhm_NoMember ?sb_NoMember_HallError ?sb_NoMember_NoCounts ?sb_NoMember_NoMember ?sb_NoMember_NoNumber ?sb_NoMember_Unlike ?ii_NoNumber ?lI_NoNumber ?coI_NoNumber ?cdI_NoNumber ?vfI_NoNumber ?clI_NoNumber ?in_NoNumber ?ov_NoNumber ?sax_NoNumber ?nf_NoNumber ?sB_NoNumber ?sC_NoNumber ?ti_NoNumber ?sup_NoNumber ?xga_NoNumber ?xgg_NoNumber ?xha_NoNumber ?xhm_NoNumber ?sb_NoNumber_HallError ?sb_NoNumber_NoCounts ?sb_NoNumber_NoMember ?sb_NoNumber_NoNumber ?sb_NoNumber_Unlike ?ii_Unlike ?lI_Unlike ?coI_Unlike ?cdI_Unlike ?vfI_Unlike ?clI_Unlike ?in_Unlike ?ov_Unlike ?sax_Unlike ?nf_Unlike ?sB_Unlike ?sC_Unlike ?ti_Unlike ?sup_Unlike ?xga_Unlike ?xgg_Unlike ?xha_Unlike ?xhm_Unlike ?sb_Unlike_HallError ?sb_Unlike_NoCounts ?sb_Unlike_NoMember ?sb_Unlike_NoNumber ?sb_Unlike_Unlike ?x_hn ?x_htk ?x_ki_Counts ?x_kl_Counts ?x_kt_Counts ?x_ne_Counts ?z_all ?z_bool ?z_enumerate ?z_int ?z_isinstance ?z_len ?z_list ?z_max ?z_range ?z_super ?z_tuple ?g_LEAST_MEMBERS ?g_MOST_MEMBERS
    (case aC_Unlike => k_is)
    (case aC_NoNumber => k_is)
    (case aC_NoMember => k_is)
    (case aC_NoCounts => k_is)
    (case aC_HallError => k_is)
    (case aC_Counts => k_is)
    (case a_is_whole => k_is)
    (case l_is_whole => k_is)
    (case c_is_whole => k_is)
    (case k_is_whole => k_is)
    (case e_is_whole => k_is)
    (case a_is_list => k_is)
    (case l_is_list => k_is)
    (case c_is_list => k_is)
    (case k_is_list => k_is)
    (case a_is_member => k_is)
    (case l_is_member => k_is)
    (case c_is_member => k_is)
    (case k_is_member => k_is)
    (case a_check_member => k_is)
    (case l_check_member => k_is)
    (case c_check_member => k_is)
    (case k_check_member => k_is)
    (case a_are_changes => k_is)
    (case l_are_changes => k_is)
    (case c_are_changes => k_is)
    (case k_are_changes => k_is)
    (case e_are_changes => k_is)
    (case a_Counts_init => k_is)
    (case i_Counts_init => k_is)
    (case l_Counts_init => k_is)
    (case c_Counts_init => k_is)
    (case k_Counts_init => k_is)
    (case a_Counts_len => k_is)
    (case i_Counts_len => k_is)
    (case l_Counts_len => k_is)
    (case c_Counts_len => k_is)
    (case k_Counts_len => k_is)
    (case a_Counts_told => k_is)
    (case i_Counts_told => k_is)
    (case l_Counts_told => k_is)
    (case c_Counts_told => k_is)
    (case k_Counts_told => k_is)
    (case a_Counts_eq => k_is)
    (case i_Counts_eq => k_is)
    (case l_Counts_eq => k_is)
    (case c_Counts_eq => k_is)
    (case k_Counts_eq => k_is)
    (case a_Counts_of => k_is)
    (case i_Counts_of => k_is)
    (case l_Counts_of => k_is)
    (case c_Counts_of => k_is)
    (case k_Counts_of => k_is)
    (case a_Counts_changed => k_is)
    (case i_Counts_changed => k_is)
    (case l_Counts_changed => k_is)
    (case c_Counts_changed => k_is)
    (case k_Counts_changed => k_is)
    (case a_Counts_raised => k_is)
    (case i_Counts_raised => k_is)
    (case l_Counts_raised => k_is)
    (case c_Counts_raised => k_is)
    (case k_Counts_raised => k_is)
    (case e_Counts_raised => k_is)
    (case a_Counts_check_like => k_is)
    (case i_Counts_check_like => k_is)
    (case l_Counts_check_like => k_is)
    (case c_Counts_check_like => k_is)
    (case k_Counts_check_like => k_is)
    (case a_Counts_changes_from => k_is)
    (case i_Counts_changes_from => k_is)
    (case l_Counts_changes_from => k_is)
    (case c_Counts_changes_from => k_is)
    (case k_Counts_changes_from => k_is)
    (case a_law_take => k_is)
    (case l_law_take => k_is)
    (case c_law_take => k_is)
    (case k_law_take => k_is)
    (case a_law_pool => k_is)
    (case l_law_pool => k_is)
    (case c_law_pool => k_is)
    (case k_law_pool => k_is)
    (case a_law_numbers => k_is)
    (case l_law_numbers => k_is)
    (case c_law_numbers => k_is)
    (case k_law_numbers => k_is)
    (case a_law_near => k_is)
    (case l_law_near => k_is)
    (case c_law_near => k_is)
    (case k_law_near => k_is)
    (case a_law_first => k_is)
    (case l_law_first => k_is)
    (case c_law_first => k_is)
    (case k_law_first => k_is)
    (case a_law_refused => k_is)
    (case l_law_refused => k_is)
    (case c_law_refused => k_is)
    (case k_law_refused => k_is)
    (case a_law_raised => k_is)
    (case l_law_raised => k_is)
    (case c_law_raised => k_is)
    (case k_law_raised => k_is)
    (case a_law_from => k_is)
    (case l_law_from => k_is)
    (case c_law_from => k_is)
    (case k_law_from => k_is)
    (case a_law_some => k_is)
    (case l_law_some => k_is)
    (case c_law_some => k_is)
    (case k_law_some => k_is)
    (case a_law_changed => k_is)
    (case l_law_changed => k_is)
    (case c_law_changed => k_is)
    (case k_law_changed => k_is)
    (case a_law => k_is)
    (case l_law => k_is)
    (case c_law => k_is)
    (case k_law => k_is)
    (case kC_Counts => k_is)
    (case pg_Counts => k_is)
    (case hd_Counts => k_is)
    (case po_Counts => k_is)
    (case sa_Counts => k_is)
    (case mk_Counts => k_is)
    (case ha_Counts => k_is)
    (case hm_Counts => k_is)
    (case ty_Counts => k_is)
    (case nt_NoneType_Counts => k_is)
    (case nt_bool_Counts => k_is)
    (case nt_int_Counts => k_is)
    (case nt_str_Counts => k_is)
    (case nt_list_Counts => k_is)
    (case nt_tuple_Counts => k_is)
    (case nt_dict_Counts => k_is)
    (case n_Counts__numbers => k_is)
    (case kC_HallError => k_is)
    (case kC_NoCounts => k_is)
    (case kC_NoMember => k_is)
    (case kC_NoNumber => k_is)
    (case kC_Unlike => k_is)
    (case exC_HallError => k_is)
    (case hdx_HallError => k_is)
    (case ty_HallError => k_is)
    (case ss_HallError => k_is)
    (case exC_NoCounts => k_is)
    (case hdx_NoCounts => k_is)
    (case ty_NoCounts => k_is)
    (case ss_NoCounts => k_is)
    (case exC_NoMember => k_is)
    (case hdx_NoMember => k_is)
    (case ty_NoMember => k_is)
    (case ss_NoMember => k_is)
    (case exC_NoNumber => k_is)
    (case hdx_NoNumber => k_is)
    (case ty_NoNumber => k_is)
    (case ss_NoNumber => k_is)
    (case exC_Unlike => k_is)
    (case hdx_Unlike => k_is)
    (case ty_Unlike => k_is)
    (case ss_Unlike => k_is)
    (case opq => k_is)
    (case xhn => k_is)
    (case xht => k_is)
    (case ii_NoCounts => k_is)
    (case lI_NoCounts => k_is)
    (case coI_NoCounts => k_is)
    (case cdI_NoCounts => k_is)
    (case vfI_NoCounts => exact rfl)
    (case clI_NoCounts => k_is)
    (case in_NoCounts => kx_is)
    (case ov_NoCounts => kx_is)
    (case sax_NoCounts => k_is)
    (case nf_NoCounts => k_is)
    (case sB_NoCounts => k_is)
    (case sC_NoCounts => k_is)
    (case ti_NoCounts => k_is)
    (case sup_NoCounts => ks_is)
    (case xga_NoCounts => k_is)
    (case xgg_NoCounts => k_is)
    (case xha_NoCounts => k_is)
    (case xhm_NoCounts => k_is)
    (case sb_NoCounts_HallError => k_is)
    (case sb_NoCounts_NoCounts => k_is)
    (case sb_NoCounts_NoMember => k_is)
    (case sb_NoCounts_NoNumber => k_is)
    (case sb_NoCounts_Unlike => k_is)
    (case ii_NoMember => k_is)
    (case lI_NoMember => k_is)
    (case coI_NoMember => k_is)
    (case cdI_NoMember => k_is)
    (case vfI_NoMember => exact rfl)
    (case clI_NoMember => k_is)
    (case in_NoMember => kx_is)
    (case ov_NoMember => kx_is)
    (case sax_NoMember => k_is)
    (case nf_NoMember => k_is)
    (case sB_NoMember => k_is)
    (case sC_NoMember => k_is)
    (case ti_NoMember => k_is)
    (case sup_NoMember => ks_is)
    (case xga_NoMember => k_is)
    (case xgg_NoMember => k_is)
    (case xha_NoMember => k_is)
    (case xhm_NoMember => k_is)
    (case sb_NoMember_HallError => k_is)
    (case sb_NoMember_NoCounts => k_is)
    (case sb_NoMember_NoMember => k_is)
    (case sb_NoMember_NoNumber => k_is)
    (case sb_NoMember_Unlike => k_is)
    (case ii_NoNumber => k_is)
    (case lI_NoNumber => k_is)
    (case coI_NoNumber => k_is)
    (case cdI_NoNumber => k_is)
    (case vfI_NoNumber => exact rfl)
    (case clI_NoNumber => k_is)
    (case in_NoNumber => kx_is)
    (case ov_NoNumber => kx_is)
    (case sax_NoNumber => k_is)
    (case nf_NoNumber => k_is)
    (case sB_NoNumber => k_is)
    (case sC_NoNumber => k_is)
    (case ti_NoNumber => k_is)
    (case sup_NoNumber => ks_is)
    (case xga_NoNumber => k_is)
    (case xgg_NoNumber => k_is)
    (case xha_NoNumber => k_is)
    (case xhm_NoNumber => k_is)
    (case sb_NoNumber_HallError => k_is)
    (case sb_NoNumber_NoCounts => k_is)
    (case sb_NoNumber_NoMember => k_is)
    (case sb_NoNumber_NoNumber => k_is)
    (case sb_NoNumber_Unlike => k_is)
    (case ii_Unlike => k_is)
    (case lI_Unlike => k_is)
    (case coI_Unlike => k_is)
    (case cdI_Unlike => k_is)
    (case vfI_Unlike => exact rfl)
    (case clI_Unlike => k_is)
    (case in_Unlike => kx_is)
    (case ov_Unlike => kx_is)
    (case sax_Unlike => k_is)
    (case nf_Unlike => k_is)
    (case sB_Unlike => k_is)
    (case sC_Unlike => k_is)
    (case ti_Unlike => k_is)
    (case sup_Unlike => ks_is)
    (case xga_Unlike => k_is)
    (case xgg_Unlike => k_is)
    (case xha_Unlike => k_is)
    (case xhm_Unlike => k_is)
    (case sb_Unlike_HallError => k_is)
    (case sb_Unlike_NoCounts => k_is)
    (case sb_Unlike_NoMember => k_is)
    (case sb_Unlike_NoNumber => k_is)
    (case sb_Unlike_Unlike => k_is)
    (case x_hn => k_is)
    (case x_htk => k_is)
    (case x_ki_Counts => k_is)
    (case x_kl_Counts => k_is)
    (case x_kt_Counts => k_is)
    (case x_ne_Counts => k_is)
    (case z_all => k_is)
    (case z_bool => k_is)
    (case z_enumerate => k_is)
    (case z_int => k_is)
    (case z_isinstance => k_is)
    (case z_len => k_is)
    (case z_list => k_is)
    (case z_max => k_is)
    (case z_range => k_is)
    (case z_super => k_is)
    (case z_tuple => k_is)
    (case g_LEAST_MEMBERS => k_is)
    (case g_MOST_MEMBERS => k_is)
