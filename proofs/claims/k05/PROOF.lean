import PyProof.Rows.All
import Wide.All
import OpenK.AllK
import Wide.FinOn
import HandS.ForMost
import HandS.Wide
import HandS.IsInst
import HandS.Style
import HandS.Defaults
import HandS.Walk
import HandS.Zip
import HandS.ExcOwn
import HandS.ExcField
import HandS.ExcIs
import HandS.ExcInit
import HandS.WordsExc
import HandS.Exc
import HandS.CallSlots
import KE.KExcSuper
import KE.KExcLine
import KE.RegKSuper
import PySem.Challenge.RW_causehall_k05_all_joined
set_option Elab.async false
set_option linter.all false
set_option maxRecDepth 100000
set_option maxHeartbeats 4000000
namespace CH
open PySem PySem.Spec PyProof.Rows PySem.W PySem.Calls
/-! ### own exceptions whose __init__ says super().__init__('..') and keeps one field -/
abbrev veT : List Value := [.type "ValueError", .type "Exception", .type "BaseException", .type "object"]
abbrev leT : List Value := [.type "LookupError", .type "Exception", .type "BaseException", .type "object"]
/-- the program's file and top -/
class PF (P : Program) : Prop where
  file : (P.main.file : Str) = Str.ofString "/claim/cut.py"
  top : (P.main.scope.names.lookup ("super" : Str)).isSome = false
abbrev initBody (txt f : Str) (p0 p1 p2 p3 p4 p5 p6 p7 p8 p9 : Pos) (j : Nat) : List Stmt :=
  [.Expr (.Call (.Attribute (.Call (.Name "super" p0) [] [] p1) "__init__" p2) [.Constant (.str txt) j p3] [] p4) p5, .Assign [.Attribute (.Name "self" p6) f p7] (.Name f p8) p9]
abbrev initScope (f : Str) : Scope := { kind := .function, names := [(Str.ofString "self", .local), (f, .local), (Str.ofString "__class__", .free), (Str.ofString "super", .globalImplicit)], isGenerator := false, isCoroutine := false, more := [] }
/-- what super().__init__('..') is, line by line -/
def SupEv (txt : Str) (p0 p1 p2 p3 p4 : Pos) (j : Nat) : Prop := ∃ pl : Env → Sem Bool, ∀ env : Env, eval (.Call (.Attribute (.Call (.Name "super" p0) [] [] p1) "__init__" p2) [.Constant (.str txt) j p3] [] p4) env = (do
  let ov ← attributeBase (.Call (.Name "super" p0) [] [] p1) "__init__" env (eval (.Call (.Name "super" p0) [] [] p1) env)
  standAt p2.atName
  let (f, first) ← holding [ov] (getMethod ov "__init__" (pl env))
  callWith p4 f first (backTo p4 (starEach [.Constant (.str txt) j p3] env)) [])
/-- the function at fI is such an __init__ of the class at C -/
structure OexF (K : Frag) (C fI : Addr) (f : Str) : Prop where
  ex : ∃ (oc : Value) (od an : Option Addr) (osl : Array (Option Value)) (q : Str) (params : Arguments) (scope : Scope) (dV kV doc pm ct : Value) (cc cda : Addr) (txt : Str) (p0 p1 p2 p3 p4 p5 p6 p7 p8 p9 : Pos) (j : Nat) (ccl cl : Value) (cdd cld : Option Addr) (ccs csl : Array (Option Value)) (vs : Array Value) (tf : Tok) (ar : Arg),
    K.lookup fI = some ⟨oc, od, .func (ksFn "__init__" q params (initBody txt f p0 p1 p2 p3 p4 p5 p6 p7 p8 p9 j) scope dV kV doc pm an (.ref cda) ct cc), osl⟩ ∧
    codeIn K (.ref cda) q = true ∧ K.lookup cda = some ⟨ccl, cdd, .fields vs, ccs⟩ ∧ vs[2]? = some (.str (Str.ofString "/claim/cut.py") tf) ∧ K.lookup cc = some ⟨cl, cld, .cell (some (.ref C)), csl⟩ ∧
    (∀ s : Shared, ∀ a b : Value, BindsTo s (ksFn "__init__" q params (initBody txt f p0 p1 p2 p3 p4 p5 p6 p7 p8 p9 j) scope dV kV doc pm an (.ref cda) ct cc) ⟨[a, b], []⟩ [("self", a), (f, b)]) ∧
    (∀ s : Shared, ∀ a b : Value, BindsTo s (ksFn "__init__" q params (initBody txt f p0 p1 p2 p3 p4 p5 p6 p7 p8 p9 j) scope dV kV doc pm an (.ref cda) ct cc) ⟨[a], [(f, b)]⟩ [("self", a), (f, b)]) ∧
    SupEv txt p0 p1 p2 p3 p4 j ∧ (params.posonlyargs ++ params.args).head? = some ar ∧ ar.arg = Str.ofString "self" ∧ scope = initScope f ∧
    (f == Str.ofString "self") = false ∧ (f == Str.ofString "__debug__") = false ∧ (Str.ofString "self" == f) = false ∧ (Str.ofString "__class__" == f) = false ∧ (Str.ofString "super" == f) = false
/-- an own exception class at C, its __init__ at fI, its field f -/
structure OexS (K : Frag) (C fI : Addr) (B newId initId : String) (bmB : List Value) (f : Str) : Prop where
  base : ExcBaseFacts B newId initId bmB
  wrap : KxsFacts B initId
  stor : StoreFacts B bmB "object.__setattr__" "object"
  ini : excInitIn K C bmB newId = true
  over : excOver K C bmB = true
  hd : hasDictIn K C = true
  sa : findIn K (.ref C) "__setattr__" = some (some (.builtin "object.__setattr__"))
  nf : findIn K (.ref C) f = some none
  exC : subIn K (.ref C) (.type "BaseException") = some true
  sB : subIn K (.ref C) (.type B) = some true
  sC : mroIn K C (.ref C) = some true
  tyC : typeIn K (.ref C) = some (.type "type")
  kC : keepIn K (.ref C) = true
  ii : findIn K (.ref C) "__init__" = some (some (.ref fI))
  ti : typeIn K (.ref fI) = some (.type "function")
  sup : ks_superIn K C C "__init__" = some (some (.builtin initId))
  opq : nsIn K cStatics "thirdparty.any" = some none
  fn : OexF K C fI f
theorem cls_obj {K : Frag} {C : Addr} {q : Bool} (h : hasDictIn K C = true) : ∃ cd od dd sl, K.lookup C = some ⟨od, dd, .cls cd, sl⟩ ∧ clsIn K C = some cd := by
  obtain ⟨cd, hc, _⟩ := any_some h
  have hc' := hc
  unfold clsIn at hc'
  split at hc'
  · rename_i c d cd' sl ho
    cases hc'
    exact ⟨cd, c, d, sl, ho, hc⟩
  · cases hc'
section
variable {P : Program} {w : World} {A : Around} {R : Result → Shared → Prop} {h : Heap} {g : Array GenState} {d : Drawn} {t : Nat} {os : OsState} {K : Frag} {C fI e t0 : Addr} {B newId initId : String} {bmB : List Value} {f : Str} {u : Value} {mg mb : Str → Option Value} {args : Args}
theorem ns1_one {h : Heap} {dx : Addr} {f : Str} {u : Value} {hs : Int} {tk : Tok} {n : Nat} (e : h.get? dx = some (dictOf [⟨hs, .str f tk, u⟩] n)) : h.Ns1 dx (fun y => if y = f then some u else none) := by
  refine ⟨_, _, _, e, rfl, ?_, ?_, fun y => ?_⟩
  · intro z hz
    simp at hz
    subst hz
    exact ⟨f, tk, rfl⟩
  · exact List.pairwise_singleton ..
  · by_cases hy : y = f
    · subst hy
      simp [nsFind, findBy, Value.isStr]
    · have hy' : (f == y) = false := by simpa using fun z => hy z.symm
      simp [nsFind, findBy, Value.isStr, hy, hy']
theorem einit_run (hP : PF P) (T : OexS K C fI B newId initId bmB f) (X : K.In h) (hKe : K.lookup e = none) (hg : h.Ns mainGlobals mg) (hs : mg "super" = none) (hb : h.Ns builtinsNs mb) (hbs : mb "super" = some (.type "super")) (hlim : h.NoLimit) (hroom : A.depth < recursionLimit)
    (hge : mainGlobals ≠ e) (hbe : builtinsNs ≠ e) (he : h.get? e = some (excObj C t0 none .none)) (ha : args = ⟨[.ref e, u], []⟩ ∨ args = ⟨[.ref e], [(f, u)]⟩)
    (hq : ∀ h' t1 dx tk', (∀ b o, b ≠ e → h.get? b = some o → h'.get? b = some o) → h.objs.size ≤ dx → h'.get? e = some (excObj C t1 (some dx) .none) →
      h'.Ns1 dx (fun y => if y = f then some u else none) → R (.ok (.ret .none)) ⟨h', g, d, tk', os⟩) :
    codeAny (model P w) A (.call (.ref fI) args) R ⟨h, g, d, t, os⟩ := by
  obtain ⟨oc, od, an, osl, q, params, scope, dV, kV, doc, pm, ct, cc, cda, txt, p0, p1, p2, p3, p4, p5, p6, p7, p8, p9, j, ccl, cl, cdd, cld, ccs, csl, vs, tf, ar, lf, hcd, lcode, hvs, lcell, hb1, hb2, ⟨pl, hev⟩, hpar, har, rfl, n1, n2, n3, n4, n5⟩ := T.fn.ex
  obtain ⟨cdC, ocC, odC, slC, lC, hcC⟩ := cls_obj (q := true) T.hd
  have hbind : BindsTo ⟨h, g, d, t, os⟩ (ksFn "__init__" q params (initBody txt f p0 p1 p2 p3 p4 p5 p6 p7 p8 p9 j) (initScope f) dV kV doc pm an (.ref cda) ct cc) args [("self", .ref e), (f, u)] := by
    rcases ha with rfl | rfl
    · exact hb1 _ _ _
    · exact hb2 _ _ _
  have kf : List.lookup f [(Str.ofString "self", NameKind.local), (f, .local), (Str.ofString "__class__", .free), (Str.ofString "super", .globalImplicit)] = some .local := by
    simp [List.lookup, n1]
  have XX : K.In (hideAll h [e]) := fun a o z => hideAll_get _ (X a o z) (by
    intro y
    rw [List.mem_singleton.mp y, hKe] at z
    cases z)
  refine ks_codeAny_call_defAt hroom (X _ _ lf) rfl hlim (codeRec_of X hcd) rfl hbind ?_ ?_ (fun h₀ hns k0 => ?_)
  · intro x hx
    simp at hx
    rcases hx with rfl | rfl | rfl | rfl <;> simp
  · intro x hx
    simp at hx
    rcases hx with rfl | rfl
    · rfl
    · exact kf
  have F0 : Fr (hideAll h [e]) h.objs.size h₀ (fun x => [((f : Str), u), (Str.ofString "self", .ref e)].lookup x) := ⟨hns, fun b o z => k0 b o (of_hideAll _ z), Nat.le_of_eq (hideAll_size _ _)⟩
  have N0 : News (hideAll h [e]) h.objs.size h₀ [(e, excObj C t0 none .none)] := fun p hp => by
    rw [List.mem_singleton.mp hp]
    exact ⟨k0 _ _ he, Nat.ne_of_lt (Heap.lt_size he), hideAll_none _ (by simp)⟩
  have hself : (fun x => [((f : Str), u), (Str.ofString "self", Value.ref e)].lookup x) "self" = some (.ref e) := by
    show List.lookup (Str.ofString "self") _ = _
    simp [List.lookup, n3]
  have hfound : (fun x => [((f : Str), u), (Str.ofString "self", Value.ref e)].lookup x) f = some u := by simp [List.lookup]
  have X0 : K.In h₀ := X.keeps k0
  have ksu : (initScope f).names.lookup (Str.ofString "super") = some .globalImplicit := by
    show List.lookup (Str.ofString "super") [_, _, _, _] = _
    simp [List.lookup, n5, show (Str.ofString "super" == Str.ofString "self") = false by decide +kernel, show (Str.ofString "super" == Str.ofString "__class__") = false by decide +kernel]
  have kcl : (initScope f).names.lookup (Str.ofString "__class__") = some .free := by
    show List.lookup (Str.ofString "__class__") [_, _, _, _] = _
    simp [List.lookup, n4, show (Str.ofString "__class__" == Str.ofString "self") = false by decide +kernel]
  have kse : (initScope f).names.lookup (Str.ofString "self") = some .local := by rfl
  show _root_.PySem.wpAt (model P w) (A.deeper (ksEnv q (initScope f) h.objs.size fI (.ref cda) cc)) (.func (initBody txt f p0 p1 p2 p3 p4 p5 p6 p7 p8 p9 j) (ksEnv q (initScope f) h.objs.size fI (.ref cda) cc)) (execs (initBody txt f p0 p1 p2 p3 p4 p5 p6 p7 p8 p9 j) (ksEnv q (initScope f) h.objs.size fI (.ref cda) cc)) _ _ _
  -- super()
  refine ks_wpAt_execs_cons (ks_wpAt_Expr_any ?_)
  refine ks_wpAt_MethodCall (pl := pl (ksEnv q (initScope f) h.objs.size fI (.ref cda) cc)) ?_ (hev _)
  refine ks_wpAt_super_base (f := fI) ksu kcl (by decide) rfl (X0 _ _ lf) rfl hpar rfl (X0 _ _ lcode) rfl hvs (by rw [hP.file]; exact beq_self_eq_true _) hP.top ?_
  refine ks_loadName_global rfl ksu (loadGlobal_builtin (env := ksEnv q (initScope f) h.objs.size fI (.ref cda) cc) (hg.keeps k0) hs (hb.keeps k0) hbs ⟨rfl, ?_⟩)
  refine wpAny_loadName_free rfl kcl rfl ⟨_, X0 _ _ lcell, rfl⟩ ?_
  refine wpAny_loadName_local rfl (by rw [har]; exact kse) hns (by rw [har]; exact hself) ?_
  refine ks_wpAny_isType_cls (X0 _ _ lC) rfl ⟨rfl, ?_⟩
  refine ks_wpAny_call_super (X0 _ _ lC) rfl (k0 _ _ he) rfl (fun c z => by cases z) (looks_mroIn X0 T.sC) (fun h1 e1 k1 => ?_)
  obtain ⟨F1, N1, l1⟩ := ks_newsPush (s := ⟨h₀, g, d, 0, os⟩) (o := ks_superObj C e C) F0 N0 rfl e1 k1
  replace F1 : Fr (hideAll h [e]) h.objs.size h1 _ := F1
  refine kxs_method (odx := none) T.wrap F1 XX N1 (List.mem_cons_self ..) ⟨k1 _ _ (k0 _ _ he), rfl, rfl, trivial⟩ T.opq T.sup T.sB (by decide) (fun q2 h2 F2 N2 l2 => ?_)
  refine kxs_callWith1 N2 (List.mem_cons_self ..) ?_
  refine spliced_cons (Constant_str (k := j) (pos := p3) ?_)
  refine spliced_nil ⟨kxs_at N2 (List.mem_cons_self ..), ?_⟩
  refine kxs_call F2 XX N2 T.base T.ini (List.mem_cons_self ..) (.tail ?u1 (.tail ?u2 (.head ?u3))) (by rw [sizeLine_eq]; exact (by decide : 1 ≤ 16777216)) (fun t3 h3 F3 N3 l3 => ?_)
  case u1 => exact Nat.ne_of_gt (l2 _ (List.mem_cons_of_mem _ (List.mem_cons_self ..)))
  case u2 => exact Nat.ne_of_gt (l1 _ (List.mem_cons_self ..))
  case u3 => intro p hp; cases hp
  -- self.f = f
  refine ks_wpAt_execs_cons (ks_wpAt_Assign_Attr ?_)
  refine wpAt_of_wpAny (wpAny_Name (wpAny_loadName_local rfl kf F3.ns hfound ?_) n2)
  refine wpAny_Name (wpAny_loadName_local rfl kse F3.ns hself ?_)
  refine set_exc0 (es' := [⟨_, .str f _, u⟩]) (n' := 1) T.stor F3 XX N3 (.tail _ (.tail _ (.tail _ (.head _)))) T.sa T.over (by unfold takerIn; rw [T.nf]; rfl) T.hd rfl (.tail ?u1 (.tail ?u2 (.tail ?u3 (.head ?u4)))) (by exact (by decide : 1 ≤ 1000)) (fun dx h4 F4 N4 l4 => ?_)
  case u1 => exact Nat.ne_of_gt (l3 _ (.tail _ (.tail _ (.head _))))
  case u2 => exact Nat.ne_of_gt (l2 _ (List.mem_cons_of_mem _ (List.mem_cons_self ..)))
  case u3 => exact Nat.ne_of_gt (l1 _ (List.mem_cons_self ..))
  case u4 => intro p hp; cases hp
  refine wpAt_of_wpAny (wpAny_execs_nil ?_)
  refine hq h4 t3 dx _ (fun b o hb z => F4.keep b o (hideAll_get _ z (by simpa using hb))) ?_ (N4 _ (List.mem_of_getElem? (i := 4) rfl)).1 (ns1_one (N4 _ (List.mem_cons_self ..)).1)
  exact Nat.le_of_lt (Nat.lt_of_lt_of_le hns.lt (Nat.le_of_lt (l4 _ (List.mem_of_getElem? (i := 2) rfl))))
end

/-! ### such an exception, made for a raise -/
section
open L2
variable {X : Cx} {x f : Str} {e : Expr} {te : TE} {p pos : Pos} {C fI : Addr} {B newId initId : String} {bmB : List Value}
theorem K_new {X : Cx} {pins : List (Addr × Obj)} {σ : L2.St} {H : Hp} {s : Shared} {a : Addr} (I : Inv X pins σ H s) (h : s.heap.objs.size ≤ a) : X.K.lookup a = none := by
  cases z : X.K.lookup a with
  | none => rfl
  | some o => exact absurd (Nat.lt_of_lt_of_le (Heap.lt_size (I.kIn _ _ z)) h) (Nat.lt_irrefl _)
theorem exs_made (hP : PF X.prog) (T : OexS X.K C fI B newId initId bmB f) (hs : X.mg "super" = none) (hr : Room 2 X.A) {pins : List (Addr × Obj)} {σ : L2.St} {H1 : Hp} {s1 : Shared} {u : Value} {v : V} {Q : XK} (I1 : Inv X pins σ H1 s1) (r1 : RelV v u)
    (q : ∀ d, H1 d = none → Q (.ref C) (some d) (upd H1 d (.xd [(f, v)]))) : wpAny (model X.prog X.w) X.A (call (.ref C) [u]) (MkP X pins σ Q) X.xe s1 := by
  obtain ⟨nm, N, qn, bs, bm, hdct, sn, sub, ab, col, dd, k0, k1, k2, k3, k5, hC, hT⟩ := excInit_of I1.kIn T.ini
  obtain ⟨hp, g, dr, tk, os⟩ := s1
  have kk : ∀ b o, hp.get? b = some o → ((hp.push (kdv_tup [u])).push (HandSPX.excO C hp.objs.size)).get? b = some o := fun b o e => Heap.get?_push_of_some _ (Heap.get?_push_of_some _ e)
  have hget : ((hp.push (kdv_tup [u])).push (HandSPX.excO C hp.objs.size)).get? (hp.objs.size + 1) = some (excObj C hp.objs.size none .none) := by heap_get
  have hsz : ((hp.push (kdv_tup [u])).push (HandSPX.excO C hp.objs.size)).objs.size = hp.objs.size + 2 := by rw [Heap.size_push, Heap.size_push]
  obtain ⟨mb, b1, b2⟩ := I1.mod.blt
  have l1 : ([u] : List Value).length ≤ sizeLine := by
    rw [sizeLine_eq]
    exact (by decide : 1 ≤ 16777216)
  refine wpAny_call (HandSPX.call_own T.base hT hC (looks_findIn I1.kIn T.ii) (fun self => bind_fn I1.kIn self T.ti) l1 ?_)
  refine einit_run hP T (I1.kIn.keeps kk) (K_new I1 (Nat.le_succ _)) ((I1.mod.glob.keeps I1.bk).keeps kk) hs ((b1.keeps I1.bk).keeps kk) (b2 "super" (by decide)) (I1.nolimit.keeps kk) (hr.make C [u] []).depth ?_ ?_ hget (.inl rfl) ?_
  · exact fun z => absurd (Heap.Ns.lt (I1.mod.glob.keeps I1.bk)) (by rw [z]; exact Nat.not_lt_of_le (Nat.le_succ _))
  · exact fun z => absurd (Heap.Ns.lt (b1.keeps I1.bk)) (by rw [z]; exact Nat.not_lt_of_le (Nat.le_succ _))
  intro h' t1 dx tk' k hdx hx hns
  rw [hsz] at hdx
  obtain ⟨G, g1, g2⟩ := restrict h' fun b => decide (b ≠ hp.objs.size + 1)
  have ge : G.get? (hp.objs.size + 1) = none := g2 _ (by simp)
  have gk : ∀ b, b ≠ hp.objs.size + 1 → G.get? b = h'.get? b := fun b hb => g1 b (decide_eq_true hb)
  have nold : ∀ {b : Addr} {o : Obj}, hp.get? b = some o → b ≠ hp.objs.size + 1 := fun {b o} z => Nat.ne_of_lt (Nat.lt_succ_of_lt (Heap.lt_size z))
  have hd : dx ≠ hp.objs.size + 1 := Nat.ne_of_gt (Nat.lt_of_lt_of_le (Nat.lt_succ_self _) hdx)
  have na : H1 (hp.objs.size + 1) = none := I1.hok.fresh (Nat.le_succ _)
  have nd : H1 dx = none := I1.hok.fresh (Nat.le_trans (Nat.le_add_right _ 2) hdx)
  refine ⟨rfl, hp.objs.size + 1, _, _, ⟨G, g, dr, tk', os⟩, upd H1 dx (.xd [(f, v)]), .ref C, some dx, rfl, ?_, ?_, ge, hx, ⟨rfl, rfl⟩, rfl, rfl, ?_, rfl, I1.bare, raises_own T.exC T.tyC, q dx nd⟩
  · refine I1.laid (t' := tk') (h' := G) (fun b o z => ?_) (Nat.le_trans (Nat.le_add_right _ 2) hdx) ⟨_, hns.at fun o z => (gk dx hd).trans z, relO_put (fs := []) r1 fun _ => True.intro⟩
    exact (gk b (nold z)).trans (k b o (nold z) (kk b o z))
  · intro b o z
    by_cases hb : b = hp.objs.size + 1
    · rw [hb, ge] at z
      cases z
    · exact (gk b hb).symm.trans z
  · rw [upd_ne hd.symm]
    exact na
/-- raise C(e): the exception has a new dict with its field -/
theorem pmk_exs (hP : PF X.prog) (T : OexS X.K C fI B newId initId bmB f) (hs : X.mg "super" = none) (hr : Room 2 X.A) (hg : Gl X x) (gC : X.mg x = some (.ref C)) (he : PE X e te) (hdb : (x == ("__debug__" : Str)) = false := by decide)
    (hse : starEach [e] X.env = (false, eval e X.env) :: starEach [] X.env := by rfl) : PMk X (.Call (.Name x p) [e] [] pos) (fun σ H Q => te σ H fun v H1 => ∀ d, H1 d = none → Q (.ref C) (some d) (upd H1 d (.xd [(f, v)]))) := by
  intro pins s σ H Q I h
  refine wpAny_Call_Name_kw (ld_glob I hg gC ?_ hdb)
  refine callWith_K (h₀ := X.base) I.ok.mod.kin T.kC ?_ hse (by rfl)
  rw [hse]
  show wpAny _ _ (spliced ((false, eval e X.env) :: backTo pos (starEach [] X.env))) _ _ s
  refine spliced_cons (thn (he.run pins s σ H _ I h) fun u s1 ⟨v, H1, I1, r1, q1⟩ => ?_)
  exact spliced_nil ⟨I1.kIn, exs_made hP T hs hr I1 r1 q1⟩
end

end CH
/-! ### isinstance of a caught exception that has a dict; its fields; several clauses, tuples of classes -/
namespace CH
open PySem PySem.Spec PyProof.Rows PySem.W PySem.Calls
section
variable {prog : Program} {w : World} {A : Around} {E : Value → Shared → Prop} {s : Shared} {K : Frag} {x D : Addr} {ox : Obj} {od : Option Obj}
/-- a data descriptor of the class goes ahead of what the dict has -/
theorem found_data {C : Addr} {nm : Str} {a1 g1 : Value} (c1 : (clsIn K C).isSome = true) (c2 : findIn K (.ref C) nm = some (some a1)) (c3 : specialIn K a1 "__get__" = some (some g1)) (c4 : takesIn K a1 = some true) : findObj K C od nm = some (.bind g1 a1) := by
  rcases Option.isSome_iff_exists.mp c1 with ⟨cd, c1⟩
  show ((clsIn K C).bind _) = _
  rw [c1]
  simp only [Option.bind_some, c2, c3, c4]
theorem exc_class (T : L2.ExcC K D) {Q : Option Value → Shared → Prop} (X : K.In s.heap) (I : PySem.W.InstAt s.heap x ox D od) (q : Q (some (.ref D)) { s with toks := s.toks + 1 }) : wpAny (model prog w) A (getAttr? (.ref x) "__class__") Q E s := by
  have fnd : findObj K D od "__class__" = some (.bind (.builtin "getset_descriptor.__get__") (.builtin "object.__class__")) := found_data (by obtain ⟨c, e, _⟩ := any_some T.hd; rw [e]; rfl) T.ha T.hn T.ht
  obtain ⟨h0, g0, d0, t0, o0⟩ := s
  have ty := I.type (M := model prog w)
  have nx : (Value.builtin "BaseException.__getattribute__" == Value.builtin "object.__getattribute__") = false := by decide +kernel
  have k1 : (onTheHeap (Value.ref D) && Value.builtin "BaseException.__getattribute__" == Value.builtin "object.__getattribute__") = false := by simp only [nx, Bool.and_false]
  unfold getAttr? getAttrBy? getAttrBy
  refine wpAny_bind (wpAny_mkText (wpAny_bind (wpAny_attempt (wpAny_holding (wpAny_bind (ty.at (wpAny_bind ((looks_findIn (M := model prog w) X T.hg).at ?_))))))))
  show wpAny _ _ (if (onTheHeap (Value.ref D) && Value.builtin "BaseException.__getattribute__" == Value.builtin "object.__getattribute__") = true then _ else _) _ _ _
  rw [k1]
  rw [if_neg Bool.false_ne_true]
  unfold getAttrByItsOwn hookBefore
  refine wpAny_bind ?_
  rw [if_pos (show onTheHeap (Value.ref D) = true from rfl)]
  refine (looks_findIn (M := model prog w) X T.hk).at (wpAny_bind (wpAny_attempt (wpAny_holding ?_)))
  unfold callGetattribute
  have k0 : (false && onTheHeap (Value.builtin "BaseException.__getattribute__")) = false := Bool.false_and ..
  rw [k0]
  rw [if_neg Bool.false_ne_true]
  unfold boundAndCalled
  rw [PySem.F.excAttr_ValueError.ga.bind (.ref x)]
  refine wpAny_bind (wpAny_pure ?_)
  show wpAny _ _ (call (.builtin "BaseException.__getattribute__") [.ref x, .str "__class__" t0]) _ _ _
  refine wpAny_call (codeAny_call_builtin PySem.F.excAttr_ValueError.ga.plain PySem.F.entry_bexc_ga ?_)
  refine @check_slot (model prog w) _ _ ⟨h0, g0, d0, t0 + 1, o0⟩ "BaseException.__getattribute__" "BaseException" "__getattribute__" (.ref x) [.str "__class__" t0] [] _ (by decide +kernel) (by decide +kernel) (ty.andThen (looks_subIn X T.hs)) (PySem.F.args_bexc_ga (.ref x) (.str "__class__" t0)) ?_
  unfold Builtin.«object.__getattribute__»
  refine wpAny_bind (wpAny_of_eq (a := ((Value.ref x : Value), [Value.str "__class__" t0])) (by first | rfl | (simp only [slotArgs]; rfl)) ?_)
  refine wpAny_bind (wpAny_pure (wpAny_bind (ty.at (wpAny_bind ((looks_find (M := model prog w) X I fnd).at ?_)))))
  show wpAny _ _ (holding [Value.builtin "object.__class__"] (call (.builtin "getset_descriptor.__get__") [.builtin "object.__class__", .ref x, .ref D]) >>= ret) _ _ _
  refine wpAny_bind (wpAny_holding (wpAny_call (class_get (s := ⟨h0, g0, d0, t0 + 1, o0⟩) (ox := ox) (od := od) X I T.hm (wpAny_pure ?_))))
  show wpAny _ _ (handedOut (.ref D)) _ _ _
  rw [handedOut_of (v := .ref D) rfl]
  first
    | exact wpAny_pure (wpAny_pure q)
    | exact wpAny_pure q
    | exact wpAny_pure (wpAny_bind (wpAny_pure (wpAny_pure q)))
theorem exc_kitx (T : L2.ExcC K D) : KitX K (.ref x) (.ref D) (fun h => PySem.W.InstAt h x ox D od) := by
  obtain ⟨cd, hc, _⟩ := any_some T.hd
  unfold clsIn at hc
  split at hc
  · rename_i c1 d1 cd1 sl1 ho
    refine ⟨fun _ _ _ I => I.type, fun _ _ X _ => ?_, fun h tp dd its n sl X htp => ?_, fun X I k => exc_class T X I k⟩
    · intro A1 Q1 E1 s1 k1 q1
      unfold isType loadHead
      exact wpAny_bind (wpAny_loadPart (k1 _ _ (X _ _ ho)) (wpAny_pure q1))
    · refine Bool.eq_false_iff.mpr fun q => ?_
      obtain rfl : D = tp := Value.ref.inj (beq_iff_eq.mp q)
      have z := (X _ _ ho).symm.trans htp
      cases z
  · cases hc
end
end CH
namespace CH
open PySem PySem.Spec PyProof.Rows PySem.W PySem.Calls L2
/-- isinstance(e, C) in an except suite: a the exception, cls its class, d its dict -/
def rIsX (K : Frag) (a : Addr) (cls : Value) (d : Option Addr) : List V → Hp → VK → Prop := fun xs H Q =>
  ∃ (D dd : Addr) (fs : List (Str × V)) (c : V) (cv : Value) (b : Bool), xs = [.ref a, c] ∧ cls = .ref D ∧ d = some dd ∧ H dd = some (.xd fs) ∧ ExcC K D ∧ ClsV c cv ∧ kitOne K (.ref D) cv = some b ∧ Q (.bl b) H
theorem inst_caught {X : Cx} {a D dd : Addr} {oe : Obj} {pn pins : List (Addr × Obj)} {σ : L2.St} {H : Hp} {s : Shared} {fs : List (Str × V)} (I : Inv (X.suite a ((a, oe) :: pn)) pins σ H s) (hz : Zc (.ref D) (some dd) oe) (hf : ∃ vs, oe.data = .fields vs) (e : H dd = some (.xd fs)) : ∃ od, PySem.W.InstAt s.heap a oe D (some od) := by
  obtain ⟨ha, _⟩ := I.pin (a, oe) (List.mem_append_left _ List.mem_cons_self)
  obtain ⟨vs, hd⟩ := hf
  have hx : ObjOk X.prog X.w H s.heap dd (.xd fs) := I.hok dd _ e
  obtain ⟨mA, hns, hr⟩ := hx
  obtain ⟨od, ho, hl⟩ := lookIn_ns hns
  refine ⟨od, ha, hz.1, ?_, ?_⟩
  · unfold PySem.W.notCls
    rw [hd]
  · rw [hz.2]
    exact ho
theorem call_isX {X : Cx} {a : Addr} {oe : Obj} {cls : Value} {d : Option Addr} {pn : List (Addr × Obj)} (hz : Zc cls d oe) (hf : ∃ vs, oe.data = .fields vs) {K : Frag} (hK : X.K = K) : CallR (X.suite a ((a, oe) :: pn)) (.builtin "isinstance") (rIsX K a cls d) := by
  subst hK
  intro pins s σ H xs us Q I r h
  obtain ⟨D, dd, fs, c, cv, b, rfl, rfl, rfl, hd, T, hc, hk, q⟩ := h
  obtain ⟨od, J⟩ := inst_caught I hz hf hd
  rcases r with _ | ⟨rx, _ | ⟨rt, _ | _⟩⟩
  obtain rfl := hc.eq rt
  cases rx
  exact PySem.W.kia_one (exc_kitx T) I.kIn J hk (fun z => nomatch z) fun tk => ⟨.bl b, H, I.kept (t' := tk) fun _ _ z => z, rfl, q⟩
/-- e.f in an except suite -/
def tXg (K : Frag) (a : Addr) (cls : Value) (d : Option Addr) (f : Str) (te : TE) : TE := fun σ H Q => te σ H fun x H1 =>
  ∃ (D dd : Addr) (fs : List (Str × V)) (v : V), x = .ref a ∧ cls = .ref D ∧ d = some dd ∧ XfC K D ∧ findIn K (.ref D) f = some none ∧ H1 dd = some (.xd fs) ∧ fs.lookup f = some v ∧ Q v H1
theorem pe_xg {X : Cx} {a : Addr} {oe : Obj} {cls : Value} {d : Option Addr} {pn : List (Addr × Obj)} {e : Expr} {te : TE} {pos : Pos} {n : Str} {K : Frag} (hK : X.K = K) (hz : Zc cls d oe) (hf : ∃ vs, oe.data = .fields vs) (he : PE (X.suite a ((a, oe) :: pn)) e te) (hb : attributeBase e n X.env (eval e X.env) = eval e X.env := by rfl) :
    PE (X.suite a ((a, oe) :: pn)) (.Attribute e n pos) (tXg K a cls d n te) := by
  subst hK
  refine ⟨fun pins s σ H Q I h => attr_of hb (thn (he.run pins s σ H _ I h) fun u s1 hh => ?_)⟩
  obtain ⟨x, H1, I1, rx, D, dd, fs, v, rfl, rfl, rfl, T, hno, ea, l, q⟩ := hh
  obtain rfl : u = Value.ref a := rx
  obtain ⟨ha, _⟩ := I1.pin (a, oe) (List.mem_append_left _ List.mem_cons_self)
  obtain ⟨vs, hd⟩ := hf
  have hx : ObjOk X.prog X.w H1 s1.heap dd (.xd fs) := I1.hok dd _ ea
  obtain ⟨mA, hns, hr⟩ := hx
  obtain ⟨od, ho, hl⟩ := lookIn_ns hns
  obtain ⟨u, hu, ru⟩ := RelO.some_of (v := v) (o := mA n) (l ▸ hr n)
  have J : PySem.W.InstAt s1.heap a oe D (some od) := ⟨ha, hz.1, by unfold PySem.W.notCls; rw [hd], by rw [hz.2]; exact ho⟩
  exact HandSPX.exc_get I1.kIn J T.ga T.gg T.exC (PySem.W.findObj_own T.hdC hno rfl (by rw [hl, hu])) (handed_of ru) ⟨v, H1, I1.tok _, ru, q⟩
/-! ### the classes that a clause names -/
inductive TK (X : Cx) : Expr → (Value → Option Bool) → Prop
  | one {x1 : Str} {c1 : Value} {p1 : Pos} : Names X x1 c1 → TK X (.Name x1 p1) (fun cls => exmOne X.K cls c1)
  | two {x1 x2 : Str} {c1 c2 : Value} {p1 p2 tp : Pos} {kk : Nat} : Names X x1 c1 → Names X x2 c2 → TK X (.Tuple [.Name x1 p1, .Name x2 p2] kk tp) (fun cls => exmAny X.K cls [c1, c2])
  | three {x1 x2 x3 : Str} {c1 c2 c3 : Value} {p1 p2 p3 tp : Pos} {kk : Nat} : Names X x1 c1 → Names X x2 c2 → Names X x3 c3 → TK X (.Tuple [.Name x1 p1, .Name x2 p2, .Name x3 p3] kk tp) (fun cls => exmAny X.K cls [c1, c2, c3])
  | four {x1 x2 x3 x4 : Str} {c1 c2 c3 c4 : Value} {p1 p2 p3 p4 tp : Pos} {kk : Nat} : Names X x1 c1 → Names X x2 c2 → Names X x3 c3 → Names X x4 c4 → TK X (.Tuple [.Name x1 p1, .Name x2 p2, .Name x3 p3, .Name x4 p4] kk tp) (fun cls => exmAny X.K cls [c1, c2, c3, c4])
section
variable {X : Cx} {a : Addr} {oe : Obj} {pn : List (Addr × Obj)} {σ : L2.St} {H : Hp} {s : Shared} {E : Value → Shared → Prop}
theorem nm_eval {x : Str} {c : Value} {np : Pos} {Q : Value → Shared → Prop} (hc : Names X x c) (S : Inv (X.suite a ((a, oe) :: pn)) [] σ H s) (q : Q c s) : wpAny (model X.prog X.w) (X.A.mark (some (.ref a))) (eval (.Name x np) X.env) Q E s := by
  rcases hc with ⟨g1, g2, g3 | ⟨g3, g4, g5⟩⟩
  · exact ld_glob (X := X.suite a ((a, oe) :: pn)) S g1 g3 q g2
  · exact ld_blt (X := X.suite a ((a, oe) :: pn)) S g1 g3 g4 q g5 g2
theorem tk_run {te : Expr} {f : Value → Option Bool} {cls : Value} {b : Bool} {Q : Bool → Shared → Prop} (T : TK X te f) (S : Inv (X.suite a ((a, oe) :: pn)) [] σ H s) (ha : s.heap.get? a = some oe) (hc : oe.cls = cls) (hb : f cls = some b)
    (q : ∀ h', (∀ r o, s.heap.get? r = some o → h'.get? r = some o) → Q b { s with heap := h' }) :
    wpAny (model X.prog X.w) (X.A.mark (some (.ref a))) (eval te X.env) (fun c s₁ => wpAny (model X.prog X.w) (X.A.mark (some (.ref a))) (excMatches (.ref a) c) Q E s₁) E s := by
  have LT : Looks (model X.prog X.w) s.heap (typeOf (.ref a)) cls := fun A Q E s k q => wpAny_typeOf_ref (k _ _ ha) (hc ▸ q)
  have kp : ∀ {l : List Value} q o, s.heap.get? q = some o → (s.heap.push { cls := .type "tuple", data := .seq l.toArray }).get? q = some o := fun _ _ z => Heap.get?_push_of_some _ z
  cases T with
  | one n1 => exact nm_eval n1 S ((exm_one (M := model X.prog X.w) S.kIn LT hb).here (q s.heap fun _ _ z => z))
  | two n1 n2 => exact wpAny_Tuple (wpAny_items_cons (nm_eval n1 S (wpAny_items_cons (nm_eval n2 S (wpAny_items_nil ⟨by size_fits, (exm_tup2 (S.kIn.keeps kp) (LT.keeps kp) (Heap.get?_push_size s.heap rfl) hb).here (q _ kp)⟩)))))
  | three n1 n2 n3 => exact wpAny_Tuple (wpAny_items_cons (nm_eval n1 S (wpAny_items_cons (nm_eval n2 S (wpAny_items_cons (nm_eval n3 S (wpAny_items_nil ⟨by size_fits, (exm_tup3 (S.kIn.keeps kp) (LT.keeps kp) (Heap.get?_push_size s.heap rfl) hb).here (q _ kp)⟩)))))))
  | four n1 n2 n3 n4 => exact wpAny_Tuple (wpAny_items_cons (nm_eval n1 S (wpAny_items_cons (nm_eval n2 S (wpAny_items_cons (nm_eval n3 S (wpAny_items_cons (nm_eval n4 S (wpAny_items_nil ⟨by size_fits, (exm_tup4 (S.kIn.keeps kp) (LT.keeps kp) (Heap.get?_push_size s.heap rfl) hb).here (q _ kp)⟩)))))))))
end
theorem fly_on {B h h' : Heap} {l : List Env} {e : Addr} {Z : Obj → Prop} (R : HandSPX.FlyingZ B l e Z h) (k : ∀ b o, h.get? b = some o → h'.get? b = some o) : HandSPX.FlyingZ B l e Z h' := by
  rcases R with ⟨g1, g2, g3, o1, vs, T, oT, ts, q1, q2, q3, q4, q5, q6, q7, q8, q9⟩
  exact ⟨fun b o q => k b o (g1 b o q), g2, g3.of_keeps fun b o q _ => ⟨o, k b o q, rfl⟩, o1, vs, T, oT, ts, k _ _ q1, q2, q3, q4, q5, q6, k _ _ q7, q8, q9⟩
/-! ### try: body, except ..: suite, .. -/
abbrev Clause := (Value → Option Bool) × Option Nat × (Addr → Value → Option Addr → TS)
/-- behind a suite with a name the name is gone -/
def goneE (i : Nat) (D : Ends) : Ends := { nx := fun σ' H' => D.nx (σ'.set i none) H', rt := D.rt, bk := fun σ' H' => D.bk (σ'.set i none) H', ct := fun σ' H' => D.ct (σ'.set i none) H' }
def wTry (Wout : WX) (D : Ends) : List Clause → WX
  | [] => Wout
  | (f, none, ts) :: r => fun cls d σ H => ∃ b, f cls = some b ∧ if b = true then ∀ a, H a = none → ts a cls d D σ H else wTry Wout D r cls d σ H
  | (f, some i, ts) :: r => fun cls d σ H => ∃ b, f cls = some b ∧ if b = true then ∀ a, H a = none → ts a cls d (goneE i D) (σ.set i (some (.ref a))) H else wTry Wout D r cls d σ H
inductive ClsOk (X : Cx) : List ExceptHandler → List Clause → Prop
  | nil : ClsOk X [] []
  | plain {te : Expr} {f : Value → Option Bool} {ts : Addr → Value → Option Addr → TS} {b₀ : Stmt} {su : List Stmt} {pos : Pos} {hds : List ExceptHandler} {l : List Clause} (ht : TK X te f)
      (hsu : ∀ (a : Addr) (oe : Obj) (cls : Value) (d : Option Addr) (pn : List (Addr × Obj)), Zc cls d oe → (∃ vs, oe.data = .fields vs) → PSs (X.suite a ((a, oe) :: pn)) (b₀ :: su) (ts a cls d)) (r : ClsOk X hds l) :
      ClsOk X (.ExceptHandler (some te) none (b₀ :: su) pos :: hds) ((f, none, ts) :: l)
  | named {te : Expr} {f : Value → Option Bool} {n : Str} {i : Nat} {ts : Addr → Value → Option Addr → TS} {b₀ : Stmt} {su : List Stmt} {pos : Pos} {hds : List ExceptHandler} {l : List Clause} (ht : TK X te f) (hi : X.N[i]? = some n) (hln : X.env.kindOf n = some .local)
      (hsu : ∀ (a : Addr) (oe : Obj) (cls : Value) (d : Option Addr) (pn : List (Addr × Obj)), Zc cls d oe → (∃ vs, oe.data = .fields vs) → PSs (X.suite a ((a, oe) :: pn)) (b₀ :: su) (ts a cls d)) (r : ClsOk X hds l) :
      ClsOk X (.ExceptHandler (some te) (some n) (b₀ :: su) pos :: hds) ((f, some i, ts) :: l)
section
variable {X : Cx} {pins : List (Addr × Obj)} {σ : L2.St} {H : Hp} {D : Ends} {sI s' : Shared} {a : Addr} {B : Heap} {cls : Value} {d : Option Addr} {Wout : WX}
/-- the exception stands noted at the frame: the clauses, one behind the other -/
theorem clauses_run {hds : List ExceptHandler} {l : List Clause} (hk : ClsOk X hds l) : ∀ {h3 : Heap}, (ok : X.Ok) → X.A.frames = some (X.env :: X.outer) → X.stack = X.env :: X.outer → X.env.frame = some X.env.locals → X.N.Nodup → Takes X Wout → Inv X pins σ H sI → (∀ b o, sI.heap.get? b = some o → b ∉ frs X.stack → B.get? b = some o) → sI.heap.UpToSlots h3 → HandSPX.FlyingZ B (X.env :: X.outer) a (Zc cls d) h3 →
    H a = none → s'.os = sI.os → AllBare s'.gens → wTry Wout D l cls d σ H → wpAny (model X.prog X.w) X.A (handleBy (.ref a) X.env hds) (SP X pins D) X.xe { s' with heap := h3 } := by
  induction hk with
  | nil =>
    intro h3 ok hfr hs hf hN tk J nb up fl na os ag w
    refine wpAny_handleBy_nil ?_
    obtain ⟨_, _, _, oe, vs, T, oT, ts', he, hz, hd, h1, _⟩ := id fl
    unfold PySem.passOn
    refine wpAny_bind (wpAny_field he hd h1 ?_)
    rw [if_neg (show ¬ ((Value.ref T == Value.none) = true) from by simp)]
    have out : wpAny (model X.prog X.w) X.A (setFlight (.ref a) X.env.frame) (fun _ s4 => wpAny (model X.prog X.w) X.A (throw (.ref a) : Sem Flow) (SP X pins D) X.xe s4) X.xe { s' with heap := h3 } := by
      rw [hf]
      exact HandSPX.setFlight_upZ fl fun h4 hh4 up4 => wpAny_throw (tk _ _ ⟨a, B, sI, pins, σ, H, cls, d, rfl, J, nb, up.trans up4, .inr (.inr (hs ▸ hh4)), na, os, ag, w⟩)
    first
      | exact wpAny_bind (wpAny_pure (wpAny_bind out))
      | exact wpAny_bind out
  | @plain te f ts b₀ su pos hds l ht hsu r ih =>
    intro h3 ok hfr hs hf hN tk J nb up fl na os ag w
    obtain ⟨b, hb, w⟩ := w
    have J3 : Inv X pins σ H { s' with heap := h3 } := J.landed nb fl.1 up os ag
    obtain ⟨oe3, vs3, he3, hz3, hd3⟩ := fl.there
    have nfr : ∀ {h : Heap} {o : Obj} {vs : Array Value}, h.FunFrames B (X.env :: X.outer) → h.get? a = some o → o.data = .fields vs → a ∉ frs (X.env :: X.outer) := fun {h o vs} ff e dd hm => by
      obtain ⟨_, o2, e2, z⟩ := ff.mem hm
      cases e.symm.trans e2
      exact z _ dd
    have n1 := nfr fl.2.2.1 he3 hd3
    have nL : a ≠ X.env.locals := fun z => n1 (List.mem_filterMap.mpr ⟨X.env, List.mem_cons_self, by rw [hf, z]⟩)
    have nF : a ∉ X.fs := fun hm => by
      obtain ⟨e, he, q⟩ := List.mem_filterMap.mp hm
      exact n1 (List.mem_filterMap.mpr ⟨e, List.mem_cons_of_mem _ he, q⟩)
    refine wpAny_handleBy_cons (codeAny_handlers_test ?_) (by intro q; cases q)
    refine tk_run ht (J3.suite he3 hd3 na nL nF) he3 hz3.1 hb fun h5 k5 => ?_
    have fl5 := fly_on fl k5
    have up5 : sI.heap.UpToSlots h5 := up.trans (Heap.UpToSlots.of_keeps k5)
    cases b with
    | false => exact ih ok hfr hs hf hN tk J nb up5 fl5 na os ag w
    | true =>
      refine codeAny_handlers_suite (HandSPX.lands_againZ fl5 fun h4 fl4 up4 => ?_)
      obtain ⟨oe4, vs4, he4, hz4, hd4⟩ := fl4.there
      have S4 := (show Inv X pins σ H { s' with heap := h4 } from J.landed nb fl4.1 (up5.trans up4) os ag).suite he4 hd4 na nL nF
      refine wpAny_mono ((hsu a oe4 cls d (X.pn ++ pins) hz4 ⟨_, hd4⟩).run [] _ _ H _ S4 (w a na)) (fun fw s6 hsp => ?_) (fun _ _ z => False.elim z)
      cases fw with
      | next => exact let ⟨_, _, S6, q6⟩ := hsp; ⟨_, _, S6.unsuite ok, q6⟩
      | brk => exact let ⟨_, _, S6, q6⟩ := hsp; ⟨_, _, S6.unsuite ok, q6⟩
      | cont => exact let ⟨_, _, S6, q6⟩ := hsp; ⟨_, _, S6.unsuite ok, q6⟩
      | ret u => exact let ⟨_, _, _, S6, r6, q6⟩ := hsp; ⟨_, _, _, S6.unsuite ok, r6, q6⟩
  | @named te f n i ts b₀ su pos hds l ht hi hln hsu r ih =>
    intro h3 ok hfr hs hf hN tk J nb up fl na os ag w
    obtain ⟨b, hb, w⟩ := w
    have J3 : Inv X pins σ H { s' with heap := h3 } := J.landed nb fl.1 up os ag
    obtain ⟨oe3, vs3, he3, hz3, hd3⟩ := fl.there
    have nfr : ∀ {h : Heap} {o : Obj} {vs : Array Value}, h.FunFrames B (X.env :: X.outer) → h.get? a = some o → o.data = .fields vs → a ∉ frs (X.env :: X.outer) := fun {h o vs} ff e dd hm => by
      obtain ⟨_, o2, e2, z⟩ := ff.mem hm
      cases e.symm.trans e2
      exact z _ dd
    have n1 := nfr fl.2.2.1 he3 hd3
    have nL : a ≠ X.env.locals := fun z => n1 (List.mem_filterMap.mpr ⟨X.env, List.mem_cons_self, by rw [hf, z]⟩)
    have nF : a ∉ X.fs := fun hm => by
      obtain ⟨e, he, q⟩ := List.mem_filterMap.mp hm
      exact n1 (List.mem_filterMap.mpr ⟨e, List.mem_cons_of_mem _ he, q⟩)
    refine wpAny_handleBy_cons (codeAny_handlers_test ?_) (by intro q; cases q)
    refine tk_run ht (J3.suite he3 hd3 na nL nF) he3 hz3.1 hb fun h5 k5 => ?_
    have fl5 := fly_on fl k5
    have up5 : sI.heap.UpToSlots h5 := up.trans (Heap.UpToSlots.of_keeps k5)
    cases b with
    | false => exact ih ok hfr hs hf hN tk J nb up5 fl5 na os ag w
    | true =>
      refine codeAny_handlers_suite_as (HandSPX.lands_againZ fl5 fun h4 fl4 up4 => ?_)
      obtain ⟨oe4, vs4, he4, hz4, hd4⟩ := fl4.there
      have S4 := (show Inv X pins σ H { s' with heap := h4 } from J.landed nb fl4.1 (up5.trans up4) os ag).suite he4 hd4 na nL nF
      refine store_ok (X := X.suite a ((a, oe4) :: (X.pn ++ pins))) (v := .ref a) S4 hN hi (.inl hln) rfl (fun s5 S5 => ?_) (.inr hln)
      refine wpAny_mono ((hsu a oe4 cls d (X.pn ++ pins) hz4 ⟨_, hd4⟩).run [] s5 _ H _ S5 (w a na)) (fun fw s6 hsp => ?_) (fun _ _ z => False.elim z)
      have end_ : ∀ {σ6 : L2.St} {H6 : Hp} {Q : Shared → Prop}, Inv (X.suite a ((a, oe4) :: (X.pn ++ pins))) [] σ6 H6 s6 → (∀ s7, Inv X pins (σ6.set i none) H6 s7 → Q s7) →
          wpAny (model X.prog X.w) X.A (do bindName X.env n .none; unbindBehindTheSuite X.env n pos) (fun _ s7 => Q s7) X.xe s6 := fun {σ6 H6 Q} S6 hq => gone_ok (S6.unsuite ok) hN hi hln hq
      cases fw with
      | next => exact let ⟨_, _, S6, q6⟩ := hsp; end_ S6 fun s7 J7 => ⟨_, _, J7, q6⟩
      | brk => exact let ⟨_, _, S6, q6⟩ := hsp; end_ S6 fun s7 J7 => ⟨_, _, J7, q6⟩
      | cont => exact let ⟨_, _, S6, q6⟩ := hsp; end_ S6 fun s7 J7 => ⟨_, _, J7, q6⟩
      | ret u => exact let ⟨_, _, _, S6, r6, q6⟩ := hsp; end_ S6 fun s7 J7 => ⟨_, _, _, J7, r6, q6⟩
theorem ps_try_g {body : List Stmt} {h₀ : ExceptHandler} {hds : List ExceptHandler} {l : List Clause} {pos : Pos} {tb : WX → TS} (hs : X.stack = X.env :: X.outer) (hf : X.env.frame = some X.env.locals) (hN : X.N.Nodup) (tk : Takes X Wout)
    (hb : ∀ (W : WX) (pn : List (Addr × Obj)) (xe : Value → Shared → Prop), Takes (X.tr pn xe) W → PassesOwn (model X.prog X.w) X.A X.env xe → PSs (X.tr pn xe) body (tb W))
    (hh : ClsOk X (h₀ :: hds) l) : PS X (.Try body (h₀ :: hds) [] [] pos) (fun D σ H => tb (wTry Wout D l) D σ H) := by
  refine ⟨fun pins s σ H D I h => ?_⟩
  have ok := I.ok
  have hfr : X.A.frames = some (X.env :: X.outer) := hs ▸ ok.frames
  refine wpAny_Try_except (wpAny_mono ((hb (wTry Wout D l) (X.pn ++ pins) (fun e s₁ => wpAny (model X.prog X.w) X.A (noteFrame e X.env) (fun _ s₂ => wpAny (model X.prog X.w) X.A (setFlight e none) (fun _ s₃ =>
    wpAny (model X.prog X.w) X.A (handleBy e X.env (h₀ :: hds)) (SP X pins D) X.xe s₃) X.xe s₂) X.xe s₁) (fun u s1 xx => ?_) PassesOwn.looking).run [] s σ H D (I.toTry _) h) (fun fw s1 hsp => ?_) (fun e s1 he => he))
  · obtain ⟨a, B, sI, pins', σ', H', cls, d, rfl, J', nb, up, sky, na, os, ag, w⟩ := xx
    show wpAny (model X.prog X.w) X.A (noteFrame (.ref a) X.env) _ _ _
    refine Sky.land Zc.steady hfr hf (show Sky B (X.env :: X.outer) a (Zc cls d) X.env.locals s1.heap from hs ▸ sky) fun h3 fl3 up3 => ?_
    exact clauses_run hh ok hfr hs hf hN tk (J'.ofTry ok) nb (up.trans up3) fl3 na os ag w
  · cases fw with
    | next => exact let ⟨_, _, J', q⟩ := hsp; wpAny_execs_nil ⟨_, _, J'.ofTry ok, q⟩
    | brk => exact let ⟨_, _, J', q⟩ := hsp; ⟨_, _, J'.ofTry ok, q⟩
    | cont => exact let ⟨_, _, J', q⟩ := hsp; ⟨_, _, J'.ofTry ok, q⟩
    | ret u => exact let ⟨_, _, _, J', r, q⟩ := hsp; ⟨_, _, _, J'.ofTry ok, r, q⟩
end
end CH

/-! ### calls that may raise, at the caller's slots; len, == of own objects; == and != by items that are one -/
namespace CH
open PySem PySem.Spec PyProof.Rows PySem.W PySem.Calls L2
def tMethE (C : Addr) (m : Str) (sp : Sp) (dvs : List V) (E : L2.St → XK) (ta : TE) (t : TA) : TE := fun σ H Q => ta σ H fun x H1 => ∃ a dx fs, x = .ref a ∧ H1 a = some (.ins C dx fs) ∧ fs.lookup m = none ∧ t σ H1 fun vs H2 => sp (x :: (vs ++ dvs)) H2 Q (E σ)
def tMakeE (C : Addr) (sp : Sp) (dvs : List V) (E : L2.St → XK) (t : TA) : TE := fun σ H Q => t σ H fun vs H1 => ∀ x dx, H1 x = none → H1 dx = none → dx ≠ x → sp (.ref x :: (vs ++ dvs)) (upd (upd H1 dx (.own x)) x (.ins C dx [])) (fun v H2 => v = .non ∧ Q (.ref x) H2) (E σ)
section
variable {X : Cx} {CX : CXT} {k : Nat} {f C : Addr} {fd : FuncData} {ps : List Str} {sp : Sp} {dvs : List V} {ds : List Value} {E : L2.St → XK} {x m : Str} {p pos apos : Pos} {e o : Expr} {es : List Expr} {ta : TE} {t : TA}
theorem pe_methE {pl : Sem Bool} (he : PE X o ta) (c : Cls X.K C) (hm : Meth X.K C m f) (F : FnOk X.prog X.w X.K X.mg X.base CX k f fd ps sp) (hr : Room k X.A) (hb : Binds X.K fd ps ds) (hd : Vals dvs ds) (hx : ∀ σ, PassesAt CX X σ (E σ)) (ha : PA X (e :: es) t)
    (hst : starEach (e :: es) X.env = (false, eval e X.env) :: starEach es X.env := by rfl) (hpl : (backTo pos (starEach es X.env)).any (·.1) = false := by rfl)
    (ht : eval (.Call (.Attribute o m apos) (e :: es) [] pos) X.env = (eval o X.env >>= fun ov => standAt apos.atName >>= fun _ => holding [ov] (getMethod ov m pl) >>= fun r => callWith pos r.1 r.2 (backTo pos (starEach (e :: es) X.env)) (backToKw pos (keywordEach [] X.env))) := by rfl) :
    PE X (.Call (.Attribute o m apos) (e :: es) [] pos) (tMethE C m sp dvs E ta t) := by
  refine ⟨fun pins s σ H Q I h => PySem.W.methodCall_KW (pl := pl) (thn (he.run pins s σ H _ I h) fun u s1 hh => ?_) ht⟩
  obtain ⟨_, H1, I1, rx, a, dx, fs, rfl, ea, l, q⟩ := hh
  obtain rfl : u = Value.ref a := rx
  refine getmeth_ok I1 ea c hm l (PySem.W.callWith_K (first := [.ref a]) (h₀ := X.base) I.ok.mod.kin hm.kp (thn (ha.run pos pins s1 σ H1 _ I1 q) fun us s2 hh => ?_) hst hpl)
  obtain ⟨vs, H2, I2, r, q2⟩ := hh
  exact ⟨I2.kIn, run_fnSD (us := .ref a :: us) (vs := .ref a :: vs) F hr hb hd (hx σ) I2 (.cons rfl r) q2⟩
theorem pe_methE0 {pl : Sem Bool} (he : PE X o ta) (c : Cls X.K C) (hm : Meth X.K C m f) (F : FnOk X.prog X.w X.K X.mg X.base CX k f fd ps sp) (hr : Room k X.A) (hb : Binds X.K fd ps ds) (hd : Vals dvs ds) (hx : ∀ σ, PassesAt CX X σ (E σ))
    (ht : eval (.Call (.Attribute o m apos) [] [] pos) X.env = (eval o X.env >>= fun ov => standAt apos.atName >>= fun _ => holding [ov] (getMethod ov m pl) >>= fun r => callWith pos r.1 r.2 (backTo pos (starEach [] X.env)) (backToKw pos (keywordEach [] X.env))) := by rfl) :
    PE X (.Call (.Attribute o m apos) [] [] pos) (tMethE C m sp dvs E ta tNil) := by
  refine ⟨fun pins s σ H Q I h => PySem.W.methodCall_KW (pl := pl) (thn (he.run pins s σ H _ I h) fun u s1 hh => ?_) ht⟩
  obtain ⟨_, H1, I1, rx, a, dx, fs, rfl, ea, l, q⟩ := hh
  obtain rfl : u = Value.ref a := rx
  exact getmeth_ok I1 ea c hm l (PySem.W.callWith_K0 (first := [.ref a]) I1.kIn hm.kp (run_fnSD (us := [.ref a]) (vs := [.ref a]) F hr hb hd (hx σ) I1 (.cons rfl .nil) q))
theorem pe_call0E (F : FnOk X.prog X.w X.K X.mg X.base CX k f fd ps sp) (hr : Room k X.A) (hg : Gl X x) (hm : X.mg x = some (.ref f)) (hk : PySem.W.keepIn X.K (.ref f) = true) (hb : Binds X.K fd ps ds) (hd : Vals dvs ds) (hx : ∀ σ, PassesAt CX X σ (E σ))
    (hdb : (x == ("__debug__" : Str)) = false := by decide) : PE X (.Call (.Name x p) [] [] pos) (tCallSD sp dvs E tNil) :=
  ⟨fun _ _ σ _ _ I h => wpAny_Call_Name_kw (ld_glob I hg hm (PySem.W.callWith_K0 I.kIn hk (run_fnSD (us := []) F hr hb hd (hx σ) I .nil h)) hdb)⟩
theorem run_makeE {pins : List (Addr × Obj)} {σ : L2.St} {H : Hp} {s : Shared} {Q : VK} {us : List Value} {vs : List V} {E : XK} (M : Mk X.K C f) (F : FnOk X.prog X.w X.K X.mg X.base CX k f fd ps sp) (hr : Room (k + 1) X.A) (hb : Binds X.K fd ps ds) (hd : Vals dvs ds)
    (hx : ∀ (H1 : Hp) (s1 : Shared) (e : Value) (s' : Shared), Inv X pins σ H1 s1 → CX X.stack H1 s1 E e s' → X.xe e s') (I : Inv X pins σ H s) (r : Vals vs us)
    (h : ∀ x dx, H x = none → H dx = none → dx ≠ x → sp (.ref x :: (vs ++ dvs)) (upd (upd H dx (.own x)) x (.ins C dx [])) (fun v H2 => v = .non ∧ Q (.ref x) H2) E) :
    wpAny (model X.prog X.w) X.A (call (.ref C) us) (EP X pins σ Q) X.xe s := by
  have q := h (s.heap.objs.size + 1) s.heap.objs.size (I.hok.fresh (Nat.le_succ _)) (I.hok.fresh (Nat.le_refl _)) (Nat.ne_of_lt (Nat.lt_succ_self _))
  have I2 := Inv.made (C := C) I
  have r2 : Vals (V.ref (s.heap.objs.size + 1) :: (vs ++ dvs)) (Value.ref (s.heap.objs.size + 1) :: (us ++ ds)) := .cons rfl (r.append hd)
  have hl : (Value.ref (s.heap.objs.size + 1) :: us ++ ds).length = ps.length := by
    have z := r2.length
    rw [show Value.ref (s.heap.objs.size + 1) :: us ++ ds = Value.ref (s.heap.objs.size + 1) :: (us ++ ds) from rfl, ← z]
    exact F.len _ _ _ _ q
  refine wpAny_call (make_map (f := f) I.kIn M.makes M.init (beq_iff_eq.mp M.fn) (codeAny_mono (F.run _ X.stack _ _ ⟨Value.ref (s.heap.objs.size + 1) :: us, []⟩ (Value.ref (s.heap.objs.size + 1) :: (us ++ ds)) _ _ E (hr.make C us []) (I2.env0.make C us []) (hb _ (Value.ref (s.heap.objs.size + 1) :: us) I2.kIn hl) r2 q) fun rr s' hq => ?_))
  cases rr with
  | error e => exact hx _ _ e s' I2 hq
  | ok fl =>
    cases fl with
    | ret u =>
      obtain ⟨v, H', J, rv, e, q'⟩ := I2.after hq
      subst e
      obtain rfl : u = Value.none := rv
      exact ⟨rfl, .ref _, H', J, rfl, q'⟩
    | next => exact False.elim hq
    | brk => exact False.elim hq
    | cont => exact False.elim hq
theorem pe_makeE (M : Mk X.K C f) (F : FnOk X.prog X.w X.K X.mg X.base CX k f fd ps sp) (hr : Room (k + 1) X.A) (hg : Gl X x) (hm : X.mg x = some (.ref C)) (hb : Binds X.K fd ps ds) (hd : Vals dvs ds) (hx : ∀ σ, PassesAt CX X σ (E σ))
    (ha : PA X (e :: es) t) (hdb : (x == ("__debug__" : Str)) = false := by decide) (he : starEach (e :: es) X.env = (false, eval e X.env) :: starEach es X.env := by rfl) (hpl : (backTo pos (starEach es X.env)).any (·.1) = false := by rfl) :
    PE X (.Call (.Name x p) (e :: es) [] pos) (tMakeE C sp dvs E t) :=
  ⟨fun pins s σ H Q I h => wpAny_Call_Name_kw (ld_glob I hg hm (PySem.W.callWith_K (h₀ := X.base) I.ok.mod.kin M.kp (thn (ha.run pos pins s σ H _ I h) fun us s1 hh => let ⟨vs, H1, I1, r, q⟩ := hh; ⟨I1.kIn, run_makeE M F hr hb hd (fun H1 s1 e s' J c => hx σ pins H1 s1 e s' J c) I1 r q⟩) he hpl) hdb)⟩
end
/-! ### one's own objects: len, == -/
theorem inst_of {X : Cx} {pins : List (Addr × Obj)} {σ : L2.St} {H : Hp} {s : Shared} {a C dx : Addr} {fs : List (Str × V)} (I : Inv X pins σ H s) (e : H a = some (.ins C dx fs)) : ∃ ox od, PySem.W.InstAt s.heap a ox C (some od) := by
  obtain ⟨mA, ⟨ob, hns, _⟩, _⟩ := ins_get I.hok e
  obtain ⟨od, ho, _⟩ := lookIn_ns hns
  exact ⟨_, od, ob, rfl, rfl, ho⟩
section
variable {X : Cx} {CX : CXT} {k : Nat} {f C : Addr} {fd : FuncData} {ps : List Str} {sp : Sp} {E : XK}
theorem call_lenO {K : Frag} (hK : X.K = K) (hs : findIn K (.ref C) "__len__" = some (some (.ref f))) (hf : isFn K (.ref f) = true) (F : FnOk X.prog X.w X.K X.mg X.base CX k f fd ps sp) (hr : Room (k + 1) X.A) (hb : Binds X.K fd ps []) (hx : Passes CX X E) :
    CallR X (.builtin "len") (fun xs H Q => ∃ a dx fs, xs = [.ref a] ∧ H a = some (.ins C dx fs) ∧ sp [.ref a] H (fun v H' => ∃ n : Int, v = .int n ∧ 0 ≤ n ∧ n < 2 ^ 63 ∧ Q (.int n) H') E) := by
  subst hK
  intro pins s σ H xs us Q I r h
  obtain ⟨a, dx, fs, rfl, ea, q⟩ := h
  rw [Vals.ref1 r]
  obtain ⟨ox, od, J⟩ := inst_of I ea
  obtain ⟨m, hn, _⟩ := I.loc
  have Fr0 : Fr X.base X.env.locals s.heap m := ⟨hn, I.bk, Nat.le_trans I.ok.bsz I.ok.above⟩
  have hl : [Value.ref a].length = ps.length := by
    have z := F.len _ _ _ _ q
    exact z
  have b := hb s [.ref a] I.kIn (by rw [List.append_nil]; exact hl)
  rw [List.append_nil] at b
  refine PySem.W.len_K Fr0 I.ok.mod.kin J hs hf (wpAny_call (codeAny_mono (F.run X.A.in1 X.stack s H ⟨[.ref a], []⟩ [.ref a] [.ref a] _ E hr.in1 I.env0.in1 b (.cons rfl .nil) q) fun rr s' hq => ?_))
  cases rr with
  | error e => exact hx pins σ H s e s' I hq
  | ok fl =>
    cases fl with
    | ret u =>
      obtain ⟨v, H', J', rv, n, rfl, h0, h1, qq⟩ := I.after hq
      obtain ⟨t, rfl⟩ := rv
      exact ⟨⟨h0, h1⟩, .int n, H', J'.tok _, ⟨_, rfl⟩, qq⟩
    | next => exact False.elim hq
    | brk => exact False.elim hq
    | cont => exact False.elim hq
theorem rc_own {prog : Program} {w : World} {A : Around} {E : Value → Shared → Prop} {s : Shared} {K : Frag} {x y : Addr} {ox oy : Obj} {od od2 : Option Obj} {Q : Value → Shared → Prop} (hu : A.units < cLine) (XI : K.In s.heap) (I : PySem.W.InstAt s.heap x ox C od) (J : PySem.W.InstAt s.heap y oy C od2)
    (hs : findIn K (.ref C) "__eq__" = some (some (.ref f))) (hf : isFn K (.ref f) = true) (h : wpAny (model prog w) A (call (.ref f) [.ref x, .ref y]) (fun v s' => ∃ b, v = .bool b ∧ Q (.bool b) s') E s) : wpAny (model prog w) A (richCompare .Eq (.ref x) (.ref y)) Q E s := by
  unfold richCompare
  simp only [oneThing_ref]
  refine wpAny_holding (wpAny_bind (wpAny_cRoomFor hu ?_))
  rw [cmpInfo_Eq]
  dsimp only
  refine wpAny_bind (wpAny_typeOf_ref I.at_ (I.cls ▸ wpAny_bind (wpAny_typeOf_ref J.at_ ?_)))
  rw [J.cls]
  have e0 : (Value.ref C != Value.ref C) = false := by simp
  rw [e0]
  simp only [Bool.false_eq_true, if_false]
  refine wpAny_bind (wpAny_pure ?_)
  simp only [Bool.false_eq_true, if_false]
  unfold tryCompare
  refine wpAny_bind (wpAny_bind (ifBound_K XI I hs hf (wpAny_mono h (fun v s' hv => ?_) fun _ _ z => z)))
  obtain ⟨b, rfl, hq⟩ := hv
  exact wpAny_pure (wpAny_pure hq)
theorem op_eqO {K : Frag} (hK : X.K = K) (hs : findIn K (.ref C) "__eq__" = some (some (.ref f))) (hf : isFn K (.ref f) = true) (F : FnOk X.prog X.w X.K X.mg X.base CX k f fd ps sp) (hr : Room k X.A) (hb : Binds X.K fd ps []) (hx : Passes CX X E) :
    OpR X (compareOp .Eq) (fun x y H Q => ∃ a dx fs b dy gs, x = .ref a ∧ y = .ref b ∧ H a = some (.ins C dx fs) ∧ H b = some (.ins C dy gs) ∧ sp [.ref a, .ref b] H (fun v H' => ∃ z, v = .bl z ∧ Q (.bl z) H') E) := by
  subst hK
  intro pins s σ H x y v u Q I rx ry h
  obtain ⟨a, dx, fs, b, dy, gs, rfl, rfl, ea, eb, q⟩ := h
  obtain rfl : v = Value.ref a := rx
  obtain rfl : u = Value.ref b := ry
  obtain ⟨ox, od, J⟩ := inst_of I ea
  obtain ⟨oy, od2, J2⟩ := inst_of I eb
  refine PySem.W.cmp_ofEq (rc_own hr.units0 I.kIn J J2 hs hf ?_)
  have hd : Vals ([] : List V) ([] : List Value) := .nil
  refine wpAny_mono (run_fn (us := [.ref a, .ref b]) (vs := [.ref a, .ref b]) F hr hb hd hx I (.cons rfl (.cons rfl .nil)) (by rw [List.append_nil]; exact q)) (fun r s' hq => ?_) fun _ _ z => z
  obtain ⟨v, H', J', rv, z, rfl, qq⟩ := hq
  obtain rfl : r = Value.bool z := rv
  exact ⟨z, rfl, .bl z, H', J', rfl, qq⟩
end
/-! ### == and != of lists and tuples whose items are one and the same, or plain data -/
inductive E1 (K : Frag) (H : Hp) : V → V → Bool → Prop
  | same (a : Addr) : E1 K H (.ref a) (.ref a) true
  | str (a b : Str) : E1 K H (.str a) (.str b) (a == b)
  | dat {x y : V} {d e : PyData} : Dp K H x d → Dp K H y e → SeqAt.shaped d = true → SeqAt.shaped e = true → E1 K H x y (PyData.eqv d e)
inductive E1s (K : Frag) (H : Hp) : List V → List V → Bool → Prop
  | nil : E1s K H [] [] true
  | cons {x y : V} {xs ys : List V} {b c : Bool} : E1 K H x y b → E1s K H xs ys c → E1s K H (x :: xs) (y :: ys) (b && c)
def rEqX (K : Frag) : R2 := fun x y H Q => ∃ a b xs ys c, x = .ref a ∧ y = .ref b ∧ ((SqT K H a xs ∧ SqT K H b ys) ∨ (SqL K H a xs ∧ SqL K H b ys)) ∧ E1s K H xs ys c ∧ Q (.bl c) H
def rNeX (K : Frag) : R2 := fun x y H Q => ∃ a b xs ys c, x = .ref a ∧ y = .ref b ∧ ((SqT K H a xs ∧ SqT K H b ys) ∨ (SqL K H a xs ∧ SqL K H b ys)) ∧ E1s K H xs ys c ∧ Q (.bl (!c)) H
section
variable {X : Cx} {pins : List (Addr × Obj)} {σ : L2.St} {H : Hp} {s : Shared}
theorem E1.at (I : Inv X pins σ H s) {A : Around} (hu : A.units + 64 < cLine) {x y : V} {c : Bool} (h : E1 X.K H x y c) {u v : Value} (ru : RelV x u) (rv : RelV y v) : SeqAt.EqAt A s u v c := by
  cases h with
  | same a =>
    obtain rfl : u = Value.ref a := ru
    obtain rfl : v = Value.ref a := rv
    exact SeqAt.EqAt.same _
  | str a b =>
    obtain ⟨t, rfl⟩ := ru
    obtain ⟨t', rfl⟩ := rv
    exact SeqAt.EqAt.str_str _ _ _ _
  | @dat _ _ d e hd he sd se =>
    obtain ⟨as, r1⟩ := Dp.reads I d x u hd ru
    obtain ⟨bs, r2⟩ := Dp.reads I e y v he rv
    exact SeqAt.eqAt_reads d e A s u v as bs r1 r2 (SeqAt.canLay_of_shaped sd) (SeqAt.canLay_of_shaped se) (SeqAt.room_of_shaped sd hu)
theorem E1s.at (I : Inv X pins σ H s) {A : Around} (hu : A.units + 64 < cLine) {xs ys : List V} {c : Bool} (h : E1s X.K H xs ys c) : ∀ {us vs : List Value}, Vals xs us → Vals ys vs → us.length = vs.length ∧ ∃ e : Nat → Bool, (∀ j (h1 : j < us.length) (h2 : j < vs.length), SeqAt.EqAt A s us[j] vs[j] (e j)) ∧ ((List.range us.length).all e) = c := by
  induction h with
  | nil =>
    intro us vs r1 r2
    cases r1
    cases r2
    exact ⟨rfl, fun _ => true, fun j h1 => absurd h1 (Nat.not_lt_zero j), rfl⟩
  | @cons x y xs ys b c h1 _ ih =>
    intro us vs r1 r2
    cases r1 with
    | @cons _ u _ us ru rus =>
      cases r2 with
      | @cons _ v _ vs rv rvs =>
        obtain ⟨l, e, q, z⟩ := ih rus rvs
        refine ⟨congrArg (· + 1) l, fun j => match j with | 0 => b | j + 1 => e j, fun j h1' h2' => ?_, ?_⟩
        · cases j with
          | zero => exact h1.at I hu ru rv
          | succ j => exact q j (Nat.lt_of_succ_lt_succ h1') (Nat.lt_of_succ_lt_succ h2')
        · rw [List.length_cons, List.range_succ_eq_map, List.all_cons, List.all_map]
          exact congrArg (b && ·) z
theorem op_eqX {K : Frag} (hK : X.K = K) (hu : X.A.units + 128 < cLine) : OpR X (compareOp .Eq) (rEqX K) := by
  subst hK
  intro pins s σ H x y v u Q I rx ry h
  obtain ⟨a, b, xs, ys, c, rfl, rfl, hs, e1, q⟩ := h
  obtain rfl : v = Value.ref a := rx
  obtain rfl : u = Value.ref b := ry
  have hu1 : X.A.in1.units + 64 < cLine := by
    show X.A.units + 1 + 64 < cLine
    omega
  rcases hs with ⟨sa, sb⟩ | ⟨sa, sb⟩
  · obtain ⟨us, r1, ⟨o1, ho1, hc1, n1, hd1⟩, _⟩ := I.tuple sa
    obtain ⟨vs, r2, ⟨o2, ho2, hc2, n2, hd2⟩, _⟩ := I.tuple sb
    obtain ⟨l, e, he, z⟩ := e1.at I hu1 r1 r2
    refine SeqAt.eq_tupleAt (items := us.toArray) (items2 := vs.toArray) (e := e) ⟨o1, ho1, hc1, n1, hd1⟩ ⟨o2, ho2, hc2, n2, hd2⟩ (by omega) (fun j h1 h2 => he j h1 h2) ?_
    have w : ((List.range (min us.toArray.size vs.toArray.size)).all e && us.toArray.size == vs.toArray.size) = c := by
      rw [List.size_toArray, List.size_toArray, ← l, Nat.min_self, z, beq_self_eq_true, Bool.and_true]
    rw [w]
    exact ⟨.bl c, H, I, rfl, q⟩
  · obtain ⟨us, r1, ⟨o1, n1, ho1, hc1, _, hd1⟩, _⟩ := I.list sa
    obtain ⟨vs, r2, ⟨o2, n2, ho2, hc2, _, hd2⟩, _⟩ := I.list sb
    obtain ⟨l, e, he, z⟩ := e1.at I hu1 r1 r2
    refine SeqAt.eq_listAt (items := us.toArray) (items2 := vs.toArray) (e := e) ⟨o1, ho1, hc1, n1, hd1⟩ ⟨o2, ho2, hc2, n2, hd2⟩ (by rw [List.size_toArray, List.size_toArray]; exact l) (by omega) (fun j h1 h2 => he j h1 h2) ?_
    rw [List.size_toArray, z]
    exact ⟨.bl c, H, I, rfl, q⟩
theorem op_neX {K : Frag} (hK : X.K = K) (hu : X.A.units + 128 < cLine) : OpR X (compareOp .NotEq) (rNeX K) := by
  subst hK
  intro pins s σ H x y v u Q I rx ry h
  obtain ⟨a, b, xs, ys, c, rfl, rfl, hs, e1, q⟩ := h
  obtain rfl : v = Value.ref a := rx
  obtain rfl : u = Value.ref b := ry
  have hu1 : X.A.in1.units + 64 < cLine := by
    show X.A.units + 1 + 64 < cLine
    omega
  rcases hs with ⟨sa, sb⟩ | ⟨sa, sb⟩
  · obtain ⟨us, r1, ⟨o1, ho1, hc1, n1, hd1⟩, _⟩ := I.tuple sa
    obtain ⟨vs, r2, ⟨o2, ho2, hc2, n2, hd2⟩, _⟩ := I.tuple sb
    obtain ⟨l, e, he, z⟩ := e1.at I hu1 r1 r2
    refine PySem.W.cmp_ofNotEq (SeqAt.RcNeAt.tuples (items := us.toArray) (items2 := vs.toArray) (e := e) ⟨o1, ho1, hc1, n1, hd1⟩ ⟨o2, ho2, hc2, n2, hd2⟩ (by omega) (fun j h1 h2 => he j h1 h2) _ _ _ _ ?_)
    have w : ((List.range (min us.toArray.size vs.toArray.size)).all e && us.toArray.size == vs.toArray.size) = c := by
      rw [List.size_toArray, List.size_toArray, ← l, Nat.min_self, z, beq_self_eq_true, Bool.and_true]
    rw [w]
    exact ⟨.bl _, H, I, rfl, q⟩
  · obtain ⟨us, r1, ⟨o1, n1, ho1, hc1, _, hd1⟩, _⟩ := I.list sa
    obtain ⟨vs, r2, ⟨o2, n2, ho2, hc2, _, hd2⟩, _⟩ := I.list sb
    obtain ⟨l, e, he, z⟩ := e1.at I hu1 r1 r2
    refine PySem.W.cmp_ofNotEq (SeqAt.RcNeAt.lists (items := us.toArray) (items2 := vs.toArray) (e := e) ⟨o1, ho1, hc1, n1, hd1⟩ ⟨o2, ho2, hc2, n2, hd2⟩ (by rw [List.size_toArray, List.size_toArray]; exact l) (by omega) (fun j h1 h2 => he j h1 h2) _ _ _ _ ?_)
    rw [List.size_toArray, z]
    exact ⟨.bl _, H, I, rfl, q⟩
end
end CH

namespace CH
open PySem PySem.Spec PyProof.Rows L2
/-! ### readings, one a primitive -/
section
variable {K : PySem.W.Frag} {σ : L2.St} {H H1 H2 : Hp} {Q : VK} {D : Ends} {x y z v : V} {ta tb tc te to ti : TE} {t u : TT} {r r' : R2} {g : TG} {A B : Prop} {a p C dx : Addr} {fs : List (Str × V)} {f : Str}
theorem q_seq {t u : TS} (h : t { D with nx := u D } σ H) : tSeq t u D σ H := h
theorem q_next (h : D.nx σ H) : tNext D σ H := h
theorem q_asg (h : te σ H fun x H1 => g x σ H1 D.nx) : tAsg te g D σ H := h
theorem q_drop (h : te σ H fun _ H1 => D.nx σ H1) : tDrop te D σ H := h
theorem q_ret (h : te σ H D.rt) : tRet te D σ H := h
theorem q_retN (h : D.rt .non H) : tRetN D σ H := h
theorem q_if {c : TT} {t u : TS} (h : c σ H fun b H1 => if b = true then t D σ H1 else u D σ H1) : tIfS c t u D σ H := h
theorem q_brk (h : D.bk σ H) : tBreak D σ H := h
theorem q_cont (h : D.ct σ H) : tCont D σ H := h
theorem q_gname {i : Nat} {Q : L2.St → Hp → Prop} (h : Q (σ.set i (some v)) H) : gName i v σ H Q := h
theorem q_gsub {s : V → V → V → Hp → (Hp → Prop) → Prop} {Q : L2.St → Hp → Prop} (h : to σ H fun o H1 => ti σ H1 fun i H2 => s o i v H2 fun H3 => Q σ H3) : gSub to ti s v σ H Q := h
theorem q_gnil {Q : L2.St → Hp → Prop} (h : Q σ H) : gNil [] σ H Q := ⟨rfl, h⟩
theorem q_gcons {t : TG} {u : TGs} {r : List V} {Q : L2.St → Hp → Prop} (h : t v σ H fun σ' H' => u r σ' H' Q) : gCons t u (v :: r) σ H Q := ⟨v, r, rfl, h⟩
theorem q_gtup {n : Nat} {t : TGs} {xs : List V} {Q : L2.St → Hp → Prop} (h1 : SqT K H a xs) (h2 : xs.length = n) (h : t xs σ H Q) : gTup K n t (.ref a) σ H Q := ⟨a, xs, rfl, h1, h2, h⟩
theorem q_var {i : Nat} (e : σ[i]? = some (some v)) (h : Q v H) : tVar i σ H Q := ⟨v, e, h⟩
theorem q_c (h : Q v H) : tC v σ H Q := h
theorem q_op (h : ta σ H fun x H1 => tb σ H1 fun y H2 => r x y H2 Q) : tOp r ta tb σ H Q := h
theorem q_un {r : V → Hp → VK → Prop} (h : ta σ H fun x H1 => r x H1 Q) : tUn r ta σ H Q := h
theorem q_I {c : Int → Int → Prop} {gg : Int → Int → V} {i j : Int} (hc : c i j) (h : Q (gg i j) H) : rI c gg (.int i) (.int j) H Q := ⟨i, j, rfl, rfl, hc, h⟩
theorem q_I0 {gg : Int → Int → V} {i j : Int} (h : Q (gg i j) H) : rI0 gg (.int i) (.int j) H Q := ⟨i, j, rfl, rfl, h⟩
theorem q_U {gg : Int → V} {i : Int} (h : Q (gg i) H) : rU gg (.int i) H Q := ⟨i, rfl, h⟩
theorem q_eqI {i j : Int} (h : Q (.bl (decide (i = j))) H) : rEq (.int i) (.int j) H Q := ⟨rfl, by
  have e : decide (V.int i = V.int j) = decide (i = j) := by simp
  rw [e]; exact h⟩
theorem q_eqS {i j : Str} (h : Q (.bl (decide (i = j))) H) : rEq (.str i) (.str j) H Q := ⟨rfl, by
  have e : decide (V.str i = V.str j) = decide (i = j) := by simp
  rw [e]; exact h⟩
theorem q_eqB {i j : Bool} (h : Q (.bl (decide (i = j))) H) : rEq (.bl i) (.bl j) H Q := ⟨rfl, by
  have e : decide (V.bl i = V.bl j) = decide (i = j) := by simp
  rw [e]; exact h⟩
theorem q_eq0 (h1 : scal x y = true) (h2 : ¬ x = y) (h : Q (.bl false) H) : rEq x y H Q := ⟨h1, by rw [decide_eq_false h2]; exact h⟩
theorem q_neI {i j : Int} (h : Q (.bl (!decide (i = j))) H) : rNe (.int i) (.int j) H Q := ⟨rfl, by
  have e : decide (V.int i = V.int j) = decide (i = j) := by simp
  rw [e]; exact h⟩
theorem q_neS {i j : Str} (h : Q (.bl (!decide (i = j))) H) : rNe (.str i) (.str j) H Q := ⟨rfl, by
  have e : decide (V.str i = V.str j) = decide (i = j) := by simp
  rw [e]; exact h⟩
theorem q_neB {i j : Bool} (h : Q (.bl (!decide (i = j))) H) : rNe (.bl i) (.bl j) H Q := ⟨rfl, by
  have e : decide (V.bl i = V.bl j) = decide (i = j) := by simp
  rw [e]; exact h⟩
theorem q_ne0 (h1 : scal x y = true) (h2 : ¬ x = y) (h : Q (.bl true) H) : rNe x y H Q := ⟨h1, by rw [decide_eq_false h2]; exact h⟩
theorem q_ixL {xs : List V} {i : Int} (h : SqL K H p xs) (ha : atI xs i = some v) (q : Q v H) : rIxL K (.ref p) (.int i) H Q := ⟨p, xs, i, v, rfl, rfl, h, ha, q⟩
theorem q_ixT {xs : List V} {i : Int} (h : SqT K H p xs) (ha : atI xs i = some v) (q : Q v H) : rIxT K (.ref p) (.int i) H Q := ⟨p, xs, i, v, rfl, rfl, h, ha, q⟩
theorem q_ixS {s : Str} {i : Int} {c : Nat} (h : s.length ≤ sizeLine) (ha : atI s.cps.toList i = some c) (q : Q (.str ⟨#[c]⟩) H) : rIxS (.str s) (.int i) H Q := ⟨s, i, c, rfl, rfl, h, ha, q⟩
theorem q_setL {xs : List V} {k : Int} {j : Nat} {Q : Hp → Prop} (h : H p = some (.lst xs)) (hk : ixN xs.length k = some j) (q : Q (upd H p (.lst (xs.set j v)))) : rSetL (.ref p) (.int k) v H Q := ⟨p, xs, k, j, rfl, rfl, h, hk, q⟩
theorem q_test {Q : Bool → Hp → Prop} (h : te σ H fun x H' => ∃ k, x = .bl k ∧ Q k H') : tTest te σ H Q := h
theorem q_B {Q : Bool → Hp → Prop} (h : te σ H fun x H' => ∃ k, x = .bl k ∧ Q k H') : tB te σ H Q := h
theorem q_k {P : Bool → Prop} {b : Bool} (h : P b) : ∃ k, V.bl b = .bl k ∧ P k := ⟨b, rfl, h⟩
theorem q_and {Q : Bool → Hp → Prop} (h : t σ H fun c H1 => if c = true then u σ H1 Q else Q false H1) : tAnd t u σ H Q := h
theorem q_or {Q : Bool → Hp → Prop} (h : t σ H fun c H1 => if c = true then Q true H1 else u σ H1 Q) : tOr t u σ H Q := h
theorem q_not {Q : Bool → Hp → Prop} (h : t σ H fun c H1 => Q (!c) H1) : tNot t σ H Q := h
theorem q_andV (h : ta σ H fun x H1 => ∃ c, x = .bl c ∧ if c = true then tb σ H1 Q else Q (.bl false) H1) : tAndV ta tb σ H Q := h
theorem q_orV (h : ta σ H fun x H1 => ∃ c, x = .bl c ∧ if c = true then Q (.bl true) H1 else tb σ H1 Q) : tOrV ta tb σ H Q := h
theorem q_notV (h : ta σ H fun x H1 => ∃ c, x = .bl c ∧ Q (.bl (!c)) H1) : tNotV ta σ H Q := h
theorem q_ifE (h : t σ H fun c H1 => if c = true then ta σ H1 Q else tb σ H1 Q) : tIf t ta tb σ H Q := h
theorem q_chain (h : ta σ H fun x H1 => tb σ H1 fun y H2 => r x y H2 fun z H3 => ∃ k, z = .bl k ∧ (if k = true then tc σ H3 fun w' H4 => r' y w' H4 Q else Q (.bl false) H3)) : tChain r r' ta tb tc σ H Q := h
theorem q_nil {Q : List V → Hp → Prop} (h : Q [] H) : tNil σ H Q := h
theorem q_cons {tr : TA} {Q : List V → Hp → Prop} (h : ta σ H fun x H1 => tr σ H1 fun xs H2 => Q (x :: xs) H2) : tCons ta tr σ H Q := h
theorem q_cb {r : List V → Hp → VK → Prop} {t : TA} (h : t σ H fun vs H1 => r vs H1 Q) : tCB r t σ H Q := h
theorem q_call {sp : Sp} {dvs : List V} {E : XK} {t : TA} (h : t σ H fun vs H1 => sp (vs ++ dvs) H1 Q E) : tCall sp dvs E t σ H Q := h
theorem q_lst {t : TA} (h : t σ H fun xs H1 => xs.length ≤ sizeLine ∧ ∀ p, H1 p = none → Q (.ref p) (upd H1 p (.lst xs))) : tLst t σ H Q := h
theorem q_tup {t : TA} (h : t σ H fun xs H1 => xs.length ≤ sizeLine ∧ ∀ p, H1 p = none → Q (.ref p) (upd H1 p (.tup xs))) : tTup t σ H Q := h
theorem q_new {P : Prop} {n : Nat} (hn : n ≤ 1000) (h : P) : n ≤ sizeLine ∧ P := ⟨Nat.le_trans hn (by decide), h⟩
theorem q_ift (h : A) : if true = true then A else B := iteT h
theorem q_iff (h : B) : if false = true then A else B := iteF h
theorem q_ifd {P : Prop} [Decidable P] (hp : P) (h : A) : if decide P = true then A else B := by rw [decide_eq_true hp]; exact iteT h
theorem q_ifn {P : Prop} [Decidable P] (hp : ¬ P) (h : B) : if decide P = true then A else B := by rw [decide_eq_false hp]; exact iteF h
theorem q_ifs {b : Bool} (h1 : b = true → A) (h2 : b = false → B) : if b = true then A else B := by
  cases b with
  | true => exact iteT (h1 rfl)
  | false => exact iteF (h2 rfl)
theorem q_ifx {P : Prop} [Decidable P] (h1 : P → A) (h2 : ¬ P → B) : if decide P = true then A else B := by
  by_cases h : P
  · rw [decide_eq_true h]; exact iteT (h1 h)
  · rw [decide_eq_false h]; exact iteF (h2 h)
theorem q_fld (h : ta σ H fun x H1 => ∃ a C dx fs v, x = .ref a ∧ H1 a = some (.ins C dx fs) ∧ Cls K C ∧ NoAttr K C f ∧ fs.lookup f = some v ∧ Q v H1) : tFld K ta f σ H Q := h
theorem q_sl {rr : V → Option Int → Option Int → Hp → VK → Prop} {tl th : TO} (h : te σ H fun x H1 => tl σ H1 fun l H2 => th σ H2 fun u H3 => rr x l u H3 Q) : tSl rr te tl th σ H Q := h
theorem q_nopart {Q : Option Int → Hp → Prop} (h : Q none H) : tNoPart σ H Q := h
theorem q_part {Q : Option Int → Hp → Prop} (h : te σ H fun x H1 => ∃ i, x = .int i ∧ Q (some i) H1) : tPart te σ H Q := h
theorem q_i {P : Int → Prop} {i : Int} (h : P i) : ∃ k, V.int i = .int k ∧ P k := ⟨i, rfl, h⟩
theorem q_slL {xs : List V} {lo hi : Option Int} (h : SqL K H p xs) (q : ∀ d, H d = none → Q (.ref d) (upd H d (.lst (cutV xs lo hi)))) : rSlL K (.ref p) lo hi H Q := ⟨p, xs, rfl, h, q⟩
theorem q_slT {xs : List V} {lo hi : Option Int} (h : SqT K H p xs) (hn : ¬ (HT.sIx xs.length 0 lo = 0 ∧ HT.sIx xs.length xs.length hi = xs.length)) (q : ∀ d, H d = none → Q (.ref d) (upd H d (.tup (cutV xs lo hi)))) : rSlT K (.ref p) lo hi H Q := ⟨p, xs, rfl, h, hn, q⟩
theorem q_cat {xs ys : List V} {b : Addr} (h : H p = some (.lst xs)) (h' : H b = some (.lst ys)) (hl : xs.length + ys.length ≤ sizeLine) (q : ∀ d, H d = none → Q (.ref d) (upd H d (.lst (xs ++ ys)))) : rCat (.ref p) (.ref b) H Q := ⟨p, b, xs, ys, rfl, rfl, h, h', hl, q⟩
theorem q_rep {xs : List V} {k : Int} (h : H p = some (.lst xs)) (h1 : -(2 ^ 63) ≤ k) (h2 : k < 2 ^ 63) (hl : xs.length * k.toNat ≤ sizeLine) (q : ∀ d, H d = none → Q (.ref d) (upd H d (.lst (List.replicate k.toNat xs).flatten))) : rRep (.ref p) (.int k) H Q := ⟨p, k, xs, rfl, rfl, h, h1, h2, hl, q⟩
theorem q_append {xs : List V} (h : H p = some (.lst xs)) (hl : xs.length < sizeLine) (q : Q .non (upd H p (.lst (xs ++ [y])))) : rAppend (.ref p) [y] H Q := ⟨p, xs, y, rfl, rfl, h, hl, q⟩
theorem q_bm {T : String} {rr : V → List V → Hp → VK → Prop} {t : TA} (h : to σ H fun x H1 => tyV K T x H1 ∧ t σ H1 fun xs H2 => rr x xs H2 Q) : tBM K T rr to t σ H Q := h
theorem q_tyL {xs : List V} {P : Prop} (h : H p = some (.lst xs)) (q : P) : tyV K "list" (.ref p) H ∧ P := ⟨.inl ⟨rfl, _, SqL.of h⟩, q⟩
theorem q_isB {a b : Bool} (q : Q (.bl (decide (a = b))) H) : rIsB (.bl a) (.bl b) H Q := ⟨a, b, rfl, rfl, q⟩
theorem q_notB {a b : Bool} (q : Q (.bl (!decide (a = b))) H) : rNotB (.bl a) (.bl b) H Q := ⟨a, b, rfl, rfl, q⟩
end
/-! ### the same readings under names -/
def rAddStr : R2 := fun x y H Q => ∃ i j, x = .str i ∧ y = .str j ∧ i.length + j.length ≤ sizeLine ∧ Q (.str (i ++ j)) H
def rLtStr : R2 := fun x y H Q => ∃ i j, x = .str i ∧ y = .str j ∧ Q (.bl (decide (i.cps.toList < j.cps.toList))) H
def rLeStr : R2 := fun x y H Q => ∃ i j, x = .str i ∧ y = .str j ∧ Q (.bl (!decide (j.cps.toList < i.cps.toList))) H
def rInSign : R2 := fun x y H Q => ∃ (c : Nat) (z : Str), x = .str ⟨#[c]⟩ ∧ y = .str z ∧ Q (.bl (decide (c ∈ z.cps.toList))) H
def rIsNon : R2 := fun x y H Q => y = .non ∧ Q (.bl (decide (x = .non))) H
def rNotNon : R2 := fun x y H Q => y = .non ∧ Q (.bl (!decide (x = .non))) H
def rLenA (K : PySem.W.Frag) : List V → Hp → VK → Prop := fun xs H Q => ∃ x n, xs = [x] ∧ LenV K x H n ∧ Q (.int n) H
def rMax2 : List V → Hp → VK → Prop := fun xs H Q => ∃ i j, xs = [.int i, .int j] ∧ Q (.int (if j > i then j else i)) H
def rMin2 : List V → Hp → VK → Prop := fun xs H Q => ∃ i j, xs = [.int i, .int j] ∧ Q (.int (if j < i then j else i)) H
def rIntStr : List V → Hp → VK → Prop := fun xs H Q => ∃ a n, xs = [.str a] ∧ PySem.intText? a = some n ∧ a.length ≤ 640 ∧ Q (.int n) H
section
variable {X : Cx}
theorem op_addStr : OpR X (binaryOp .Add) rAddStr := op_add_str
theorem op_ltStr : OpR X (compareOp .Lt) rLtStr := op_lt_str
theorem op_leStr : OpR X (compareOp .LtE) rLeStr := op_le_str
theorem op_inSign : OpR X (compareOp .In) rInSign := op_in_sign
theorem op_isNon : OpR X (compareOp .Is) rIsNon := op_isN
theorem op_notNon : OpR X (compareOp .IsNot) rNotNon := op_notN
theorem call_lenA : CallR X (.builtin "len") (rLenA X.K) := call_len
theorem call_maxA (hc : X.calm = true) : CallR X (.builtin "max") rMax2 := call_max2 hc
theorem call_minA (hc : X.calm = true) : CallR X (.builtin "min") rMin2 := call_min2 hc
theorem call_intStr : CallR X (.type "int") rIntStr := call_int_str
end
section
variable {K : PySem.W.Frag} {H : Hp} {Q : VK} {x v : V} {p : Addr}
theorem q_addStr {i j : Str} (h : i.length + j.length ≤ sizeLine) (q : Q (.str (i ++ j)) H) : rAddStr (.str i) (.str j) H Q := ⟨i, j, rfl, rfl, h, q⟩
theorem q_ltStr {i j : Str} (q : Q (.bl (decide (i.cps.toList < j.cps.toList))) H) : rLtStr (.str i) (.str j) H Q := ⟨i, j, rfl, rfl, q⟩
theorem q_leStr {i j : Str} (q : Q (.bl (!decide (j.cps.toList < i.cps.toList))) H) : rLeStr (.str i) (.str j) H Q := ⟨i, j, rfl, rfl, q⟩
theorem q_inSign {c : Nat} {z : Str} (q : Q (.bl (decide (c ∈ z.cps.toList))) H) : rInSign (.str ⟨#[c]⟩) (.str z) H Q := ⟨c, z, rfl, rfl, q⟩
theorem q_isNonT (q : Q (.bl true) H) : rIsNon .non .non H Q := ⟨rfl, by rw [decide_eq_true rfl]; exact q⟩
theorem q_isNonF (h : ¬ x = .non) (q : Q (.bl false) H) : rIsNon x .non H Q := ⟨rfl, by rw [decide_eq_false h]; exact q⟩
theorem q_notNonF (q : Q (.bl false) H) : rNotNon .non .non H Q := ⟨rfl, by rw [decide_eq_true rfl]; exact q⟩
theorem q_notNonT (h : ¬ x = .non) (q : Q (.bl true) H) : rNotNon x .non H Q := ⟨rfl, by rw [decide_eq_false h]; exact q⟩
theorem q_lenS {s : Str} (h : s.length ≤ sizeLine) (q : Q (.int (s.length : Nat)) H) : rLenA K [.str s] H Q := ⟨_, _, rfl, ⟨h, rfl⟩, q⟩
theorem q_lenL {xs : List V} (h : SqL K H p xs) (q : Q (.int (xs.length : Nat)) H) : rLenA K [.ref p] H Q := ⟨_, _, rfl, .inl ⟨xs, h, rfl⟩, q⟩
theorem q_lenT {xs : List V} (h : SqT K H p xs) (q : Q (.int (xs.length : Nat)) H) : rLenA K [.ref p] H Q := ⟨_, _, rfl, .inr ⟨xs, h, rfl⟩, q⟩
theorem q_max2 {i j : Int} (q : Q (.int (max i j)) H) : rMax2 [.int i, .int j] H Q := ⟨i, j, rfl, by
  have e : (if j > i then j else i) = max i j := by omega
  rw [e]; exact q⟩
theorem q_min2 {i j : Int} (q : Q (.int (min i j)) H) : rMin2 [.int i, .int j] H Q := ⟨i, j, rfl, by
  have e : (if j < i then j else i) = min i j := by omega
  rw [e]; exact q⟩
theorem q_intStr {a : Str} {n : Int} (h : PySem.intText? a = some n) (hl : a.length ≤ 640) (q : Q (.int n) H) : rIntStr [.str a] H Q := ⟨a, n, rfl, h, hl, q⟩
theorem q_isi {c : V} {t u : Value} {b : Bool} (hc : ClsV c u) (ht : TyX K H x t) (hk : PySem.W.kitOne K t u = some b) (q : Q (.bl b) H) : rIsi K [x, c] H Q := ⟨x, c, t, u, b, rfl, hc, ht, hk, q⟩
end
theorem line_of {n : Nat} (h : n ≤ 16777216) : n ≤ sizeLine := by rw [sizeLine_eq]; exact h
theorem line_lt {n : Nat} (h : n < 16777216) : n < sizeLine := by rw [sizeLine_eq]; exact h
section
variable {K : PySem.W.Frag} {x qual : Str} {params : Arguments} {body : List Stmt} {scope : Scope} {dvs : List V} {f : Addr} {fd : FuncData} {ps : List Str}
/-- f(e, .., k = v, ..): all that have no value by their places are told by their names, in the parameters' order -/
theorem _root_.L2.FunD.kbinds1 (F : FunD K x qual params body scope dvs [] f fd) (n : Nat) (ks : List Str) (hd : dvs ≠ [])
    (h : ∀ (T : Addr) (kV doc pm : Value) (an : Option Addr) (cdv ct : Value) (us its ws : List Value), us.length = n → its.length = dvs.length → ws.length = ks.length →
      ∃ k, bindArgs (PySem.W.fnOf x qual params body scope (.ref T) kV doc pm an cdv ct) ⟨us, ks.zip ws⟩ = seqItems? (.ref T) >>= k ∧ k (some its.toArray) = pure (ps.zip (us ++ ws))) :
    KBn K fd ps n ks (fun us ws => us ++ ws) (fun vs zs => vs ++ zs) := by
  obtain ⟨oc, od, dV, kV, doc, pm, an, cdv, ct, osl, rfl, lk, hcd, hD, hK⟩ := F.ex
  rcases hD with ⟨e, _⟩ | ⟨_, T, o, its, m, rfl, lT, oT, rT⟩
  · exact absurd e hd
  · refine ⟨fun s us ws X l1 l2 => ?_, fun r1 r2 => r1.append r2⟩
    obtain ⟨k, e1, e2⟩ := h T kV doc pm an cdv ct us its ws l1 rT.length.symm l2
    refine BindsTo.of_looks fun M => ?_
    rw [e1]
    exact looks_items X lT oT (.of_pure e2)
end
section
variable {K : PySem.W.Frag} {σ : L2.St} {H : Hp} {Q : VK} {a C : Addr}
theorem q_callN {n m : Nat} {sp : Sp} {gV : List V → List V → List V} {E : XK} {t tk : TA} (h : t σ H fun vs H1 => tk σ H1 fun zs H2 => vs.length = n ∧ zs.length = m ∧ sp (gV vs zs) H2 Q E) : tCallN n m sp gV E t tk σ H Q := h
theorem q_2 {a b c d : Nat} {P : Prop} (h1 : a = b) (h2 : c = d) (h : P) : a = b ∧ c = d ∧ P := ⟨h1, h2, h⟩
theorem q_make {sp : Sp} {dvs : List V} {E : XK} {t : TA} (h : t σ H fun vs H1 => ∀ x dx, H1 x = none → H1 dx = none → dx ≠ x → sp (.ref x :: (vs ++ dvs)) (upd (upd H1 dx (.own x)) x (.ins C dx [])) (fun v H2 => v = .non ∧ Q (.ref x) H2) E) : tMake C sp dvs E t σ H Q := h
theorem q_slS {z : Str} {lo hi : Option Int} (h : z.length ≤ sizeLine) (q : Q (.str (cutS z lo hi)) H) : rSlS (.str z) lo hi H Q := ⟨z, rfl, h, q⟩
end
section
variable {K : PySem.W.Frag} {σ : L2.St} {H : Hp} {D : Ends}
theorem q_for {wi : TI} {g : TG} {tb : TS} (h : wi σ H fun J H1 => ∃ W : Nat → Nat → L2.St → Hp → Prop, (∃ m, W 0 m σ H1) ∧ ∀ i m σ H, W i m σ H →
  (J.stop i H ∧ D.nx σ H) ∨ (J.go i H ∧ ∃ N : L2.St → Hp → Prop, (∀ σ' H', N σ' H' → ∃ m', m' < m ∧ W (i + 1) m' σ' H') ∧ ∀ x H', J.yld i H x H' → g x σ H' fun σ2 H2 => tb { D with nx := N, ct := N, bk := D.nx } σ2 H2)) : tFor wi g tb D σ H := h
theorem q_rng1 {ta : TA} {R : It → Hp → Prop} (h : ta σ H fun vs H1 => ∃ j : Int, vs = [.int j] ∧ -(2 ^ 62) ≤ j ∧ j < 2 ^ 62 ∧ R (Itr 0 j.toNat) H1) : iRng1 ta σ H R := h
theorem q_rng1b {j : Int} {R : Int → Prop} (h1 : -(2 ^ 62) ≤ j) (h2 : j < 2 ^ 62) (h : R j) : ∃ k : Int, [V.int j] = [.int k] ∧ -(2 ^ 62) ≤ k ∧ k < 2 ^ 62 ∧ R k := ⟨j, rfl, h1, h2, h⟩
theorem q_iList {tl : TE} {R : It → Hp → Prop} (h : tl σ H fun x H1 => ∃ a, x = .ref a ∧ (∃ xs, SqL K H1 a xs) ∧ R (Itl K a) H1) : iList K tl σ H R := h
theorem q_iListb {a : Addr} {H : Hp} {xs : List V} {R : Addr → Prop} (h1 : SqL K H a xs) (h : R a) : ∃ b, V.ref a = .ref b ∧ (∃ xs, SqL K H b xs) ∧ R b := ⟨a, rfl, ⟨xs, h1⟩, h⟩
theorem q_iStr {te : TE} {R : It → Hp → Prop} (h : te σ H fun v H1 => ∃ x, v = .str x ∧ R (Its x) H1) : iStr te σ H R := h
theorem q_iStrb {s : Str} {R : Str → Prop} (h : R s) : ∃ x, V.str s = .str x ∧ R x := ⟨s, rfl, h⟩
theorem q_lc {wi : TI} {g : TG} {tt : TT} {te : TE} {vs : List Nat} {Q : VK} (h : wi σ H fun J H1 => ∀ D, H1 D = none → ∃ W : Nat → Nat → Hp → Prop, (∃ m, W 0 m (upd H1 D (.lst []))) ∧ ∀ i m H, W i m H →
  (J.stop i H ∧ Q (.ref D) H) ∨ (J.go i H ∧ ∃ Nx : Hp → Prop, (∀ H', Nx H' → ∃ m', m' < m ∧ W (i + 1) m' H') ∧ ∀ x H', J.yld i H x H' → g x (wipe σ vs) H' fun σ2 H2 => wipe σ2 vs = wipe σ vs ∧ tt σ2 H2 fun b H3 =>
    if b = true then te σ2 H3 fun y H4 => ∃ acc, H4 D = some (.lst acc) ∧ acc.length < sizeLine ∧ Nx (upd H4 D (.lst (acc ++ [y]))) else Nx H3)) : tLc wi g tt te vs σ H Q := h
end

section
variable {σ : L2.St} {H : Hp} {Q : VK} {C : Addr} {m : Str}
theorem q_call0 {sp : Sp} {E : XK} {t : TA} (h : t σ H fun vs H1 => sp vs H1 Q E) : tCall sp [] E t σ H Q := by
  have e : (fun vs H1 => sp (vs ++ []) H1 Q E) = fun vs H1 => sp vs H1 Q E := by
    funext vs H1
    rw [List.append_nil]
  show t σ H fun vs H1 => sp (vs ++ []) H1 Q E
  rw [e]
  exact h
theorem q_make0 {sp : Sp} {E : XK} {t : TA} (h : t σ H fun vs H1 => ∀ x dx, H1 x = none → H1 dx = none → dx ≠ x → sp (.ref x :: vs) (upd (upd H1 dx (.own x)) x (.ins C dx [])) (fun v H2 => v = .non ∧ Q (.ref x) H2) E) : tMake C sp [] E t σ H Q := by
  have e : (fun vs H1 => ∀ x dx, H1 x = none → H1 dx = none → dx ≠ x → sp (.ref x :: (vs ++ [])) (upd (upd H1 dx (.own x)) x (.ins C dx [])) (fun v H2 => v = .non ∧ Q (.ref x) H2) E) = fun vs H1 => ∀ x dx, H1 x = none → H1 dx = none → dx ≠ x → sp (.ref x :: vs) (upd (upd H1 dx (.own x)) x (.ins C dx [])) (fun v H2 => v = .non ∧ Q (.ref x) H2) E := by
    funext vs H1
    rw [List.append_nil]
  show t σ H fun vs H1 => ∀ x dx, H1 x = none → H1 dx = none → dx ≠ x → sp (.ref x :: (vs ++ [])) (upd (upd H1 dx (.own x)) x (.ins C dx [])) (fun v H2 => v = .non ∧ Q (.ref x) H2) E
  rw [e]
  exact h
theorem q_meth0 {sp : Sp} {E : XK} {ta : TE} {t : TA} (h : ta σ H fun x H1 => ∃ a dx fs, x = .ref a ∧ H1 a = some (.ins C dx fs) ∧ fs.lookup m = none ∧ t σ H1 fun vs H2 => sp (x :: vs) H2 Q E) : tMeth C m sp [] E ta t σ H Q := by
  have e : ∀ x, (fun vs H2 => sp (x :: (vs ++ [])) H2 Q E) = fun vs H2 => sp (x :: vs) H2 Q E := fun x => by
    funext vs H1
    rw [List.append_nil]
  show ta σ H fun x H1 => ∃ a dx fs, x = .ref a ∧ H1 a = some (.ins C dx fs) ∧ fs.lookup m = none ∧ t σ H1 fun vs H2 => sp (x :: (vs ++ [])) H2 Q E
  simp only [e]
  exact h
end
/-! ### heaps that grow; comprehensions whose elements change nothing -/
theorem _root_.L2.Same.new {H : Hp} {p : Addr} {o : HO} (h : H p = none) : Same H (upd H p o) := fun b u e => by
  rw [upd_ne (ne_of_none e h)]
  exact e
theorem _root_.L2.Same.snew {H H' : Hp} {p : Addr} {o : HO} (s : Same H H') (h : H p = none) : Same H (upd H' p o) := fun b u e => by
  rw [upd_ne (ne_of_none e h)]
  exact s b u e
theorem _root_.L2.Same.seqT {K : PySem.W.Frag} {H H' : Hp} {a : Addr} {xs : List V} (e : Same H H') (h : SqT K H a xs) : SqT K H' a xs := by
  rcases h with (h | ⟨o, h⟩) | h
  · exact .inl (.inl (e _ _ h))
  · exact .inl (.inr ⟨o, e _ _ h⟩)
  · exact .inr h
theorem wipe_set {σ : L2.St} {i : Nat} {x : Option V} : wipe ((wipe σ [i]).set i x) [i] = wipe σ [i] := by
  show ((σ.set i none).set i x).set i none = σ.set i none
  rw [List.set_set, List.set_set]
theorem lc_grow {J : It} {n : Nat} {G : Hp → Prop} {Y : Nat → Hp → V → Hp → Prop} (w : Walk J n G Y) {g : TG} {te : TE} {vs : List Nat} {σ : L2.St} {H1 : Hp} {D : Addr} {Qd : Hp → Prop} (ys : List V) (hy : ys.length = n) (hn : n ≤ 100000)
    (hG : ∀ H', Same H1 H' → G H') (hD : H1 D = none)
    (he : ∀ k x H2 H' (R : VK), k < n → Same H1 H2 → Y k H2 x H' → (∀ y H4, ys[k]? = some y → Same H2 H4 → R y H4) → g x (wipe σ vs) H' fun σ2 H3 => wipe σ2 vs = wipe σ vs ∧ te σ2 H3 R)
    (hd : ∀ H', Same H1 H' → H' D = some (.lst ys) → Qd H') (gm : ∀ x H' Q Q', (∀ σ H, Q σ H → Q' σ H) → g x (wipe σ vs) H' Q → g x (wipe σ vs) H' Q') :
    ∃ W : Nat → Nat → Hp → Prop, (∃ m, W 0 m (upd H1 D (.lst []))) ∧ ∀ i m H, W i m H →
      (J.stop i H ∧ Qd H) ∨ (J.go i H ∧ ∃ Nx : Hp → Prop, (∀ H', Nx H' → ∃ m', m' < m ∧ W (i + 1) m' H') ∧ ∀ x H', J.yld i H x H' → g x (wipe σ vs) H' fun σ2 H2 => wipe σ2 vs = wipe σ vs ∧ tYes σ2 H2 fun b H3 =>
        if b = true then te σ2 H3 fun y H4 => ∃ acc, H4 D = some (.lst acc) ∧ acc.length < sizeLine ∧ Nx (upd H4 D (.lst (acc ++ [y]))) else Nx H3) := by
  refine lc_it w (fun k H' => Same H1 H' ∧ H' D = some (.lst (ys.take k))) ⟨Same.new hD, by rw [upd_same]; rfl⟩ (fun i H' _ h => hG H' h.1) ?_ ?_
  · rintro k x H2 H' hk ⟨s2, d2⟩ y
    refine gm _ _ _ _ (fun σ2 H3 q => ⟨q.1, by unfold tYes; exact iteT q.2⟩) (he k x H2 H' _ hk s2 y fun v H4 e s4 => ?_)
    have hk' : k < ys.length := by omega
    refine ⟨ys.take k, s4 _ _ d2, ?_, (s2.trans s4).snew hD, ?_⟩
    · rw [List.length_take]
      exact line_lt (by omega)
    · rw [upd_same, List.take_add_one, e]
      rfl
  · rintro H' ⟨s2, d2⟩
    refine hd H' s2 ?_
    rw [d2, List.take_of_length_le (by omega)]
/-- over the signs of a text, each element a function of the sign -/
theorem lc_signs {z : Str} {i : Nat} {te : TE} {σ : L2.St} {H1 : Hp} {D : Addr} {Qd : Hp → Prop} (f : Nat → V) (hn : z.length ≤ 100000) (hD : H1 D = none)
    (he : ∀ c H2 (R : VK), Same H1 H2 → (∀ H4, Same H2 H4 → R (f c) H4) → te ((wipe σ [i]).set i (some (.str ⟨#[c]⟩))) H2 R)
    (hd : ∀ H', Same H1 H' → H' D = some (.lst (z.cps.toList.map f)) → Qd H') :
    ∃ W : Nat → Nat → Hp → Prop, (∃ m, W 0 m (upd H1 D (.lst []))) ∧ ∀ k m H, W k m H →
      ((Its z).stop k H ∧ Qd H) ∨ ((Its z).go k H ∧ ∃ Nx : Hp → Prop, (∀ H', Nx H' → ∃ m', m' < m ∧ W (k + 1) m' H') ∧ ∀ x H', (Its z).yld k H x H' → gName i x (wipe σ [i]) H' fun σ2 H2 => wipe σ2 [i] = wipe σ [i] ∧ tYes σ2 H2 fun b H3 =>
        if b = true then te σ2 H3 fun y H4 => ∃ acc, H4 D = some (.lst acc) ∧ acc.length < sizeLine ∧ Nx (upd H4 D (.lst (acc ++ [y]))) else Nx H3) := by
  refine lc_grow walk_str (z.cps.toList.map f) (by simp) hn (fun _ _ => trivial) hD ?_ hd (fun _ _ _ _ q h => q _ _ h)
  rintro k x H2 H' R hk s2 ⟨rfl, c, hc, rfl⟩ hR
  refine ⟨wipe_set, he c H' R s2 fun H4 s4 => hR _ _ ?_ s4⟩
  rw [List.getElem?_map]
  have e : z.cps.toList[k]? = some c := by simpa using hc
  rw [e]
  rfl
theorem q_ifN {A B : Prop} {b : Bool} (h : if b = true then B else A) : if (!b) = true then A else B := by
  cases b <;> exact h
section
variable {K : PySem.W.Frag}
theorem kt_NoneType_int : PySem.W.kitOne K (.type "NoneType") (.type "int") = some false := kit_ty (by decide +kernel)
theorem kt_NoneType_str : PySem.W.kitOne K (.type "NoneType") (.type "str") = some false := kit_ty (by decide +kernel)
theorem kt_NoneType_bool : PySem.W.kitOne K (.type "NoneType") (.type "bool") = some false := kit_ty (by decide +kernel)
theorem kt_NoneType_list : PySem.W.kitOne K (.type "NoneType") (.type "list") = some false := kit_ty (by decide +kernel)
theorem kt_NoneType_tuple : PySem.W.kitOne K (.type "NoneType") (.type "tuple") = some false := kit_ty (by decide +kernel)
theorem kt_NoneType_dict : PySem.W.kitOne K (.type "NoneType") (.type "dict") = some false := kit_ty (by decide +kernel)
theorem kt_bool_int : PySem.W.kitOne K (.type "bool") (.type "int") = some true := kit_ty (by decide +kernel)
theorem kt_bool_str : PySem.W.kitOne K (.type "bool") (.type "str") = some false := kit_ty (by decide +kernel)
theorem kt_bool_bool : PySem.W.kitOne K (.type "bool") (.type "bool") = some true := kit_ty (by decide +kernel)
theorem kt_bool_list : PySem.W.kitOne K (.type "bool") (.type "list") = some false := kit_ty (by decide +kernel)
theorem kt_bool_tuple : PySem.W.kitOne K (.type "bool") (.type "tuple") = some false := kit_ty (by decide +kernel)
theorem kt_bool_dict : PySem.W.kitOne K (.type "bool") (.type "dict") = some false := kit_ty (by decide +kernel)
theorem kt_int_int : PySem.W.kitOne K (.type "int") (.type "int") = some true := kit_ty (by decide +kernel)
theorem kt_int_str : PySem.W.kitOne K (.type "int") (.type "str") = some false := kit_ty (by decide +kernel)
theorem kt_int_bool : PySem.W.kitOne K (.type "int") (.type "bool") = some false := kit_ty (by decide +kernel)
theorem kt_int_list : PySem.W.kitOne K (.type "int") (.type "list") = some false := kit_ty (by decide +kernel)
theorem kt_int_tuple : PySem.W.kitOne K (.type "int") (.type "tuple") = some false := kit_ty (by decide +kernel)
theorem kt_int_dict : PySem.W.kitOne K (.type "int") (.type "dict") = some false := kit_ty (by decide +kernel)
theorem kt_str_int : PySem.W.kitOne K (.type "str") (.type "int") = some false := kit_ty (by decide +kernel)
theorem kt_str_str : PySem.W.kitOne K (.type "str") (.type "str") = some true := kit_ty (by decide +kernel)
theorem kt_str_bool : PySem.W.kitOne K (.type "str") (.type "bool") = some false := kit_ty (by decide +kernel)
theorem kt_str_list : PySem.W.kitOne K (.type "str") (.type "list") = some false := kit_ty (by decide +kernel)
theorem kt_str_tuple : PySem.W.kitOne K (.type "str") (.type "tuple") = some false := kit_ty (by decide +kernel)
theorem kt_str_dict : PySem.W.kitOne K (.type "str") (.type "dict") = some false := kit_ty (by decide +kernel)
theorem kt_list_int : PySem.W.kitOne K (.type "list") (.type "int") = some false := kit_ty (by decide +kernel)
theorem kt_list_str : PySem.W.kitOne K (.type "list") (.type "str") = some false := kit_ty (by decide +kernel)
theorem kt_list_bool : PySem.W.kitOne K (.type "list") (.type "bool") = some false := kit_ty (by decide +kernel)
theorem kt_list_list : PySem.W.kitOne K (.type "list") (.type "list") = some true := kit_ty (by decide +kernel)
theorem kt_list_tuple : PySem.W.kitOne K (.type "list") (.type "tuple") = some false := kit_ty (by decide +kernel)
theorem kt_list_dict : PySem.W.kitOne K (.type "list") (.type "dict") = some false := kit_ty (by decide +kernel)
theorem kt_tuple_int : PySem.W.kitOne K (.type "tuple") (.type "int") = some false := kit_ty (by decide +kernel)
theorem kt_tuple_str : PySem.W.kitOne K (.type "tuple") (.type "str") = some false := kit_ty (by decide +kernel)
theorem kt_tuple_bool : PySem.W.kitOne K (.type "tuple") (.type "bool") = some false := kit_ty (by decide +kernel)
theorem kt_tuple_list : PySem.W.kitOne K (.type "tuple") (.type "list") = some false := kit_ty (by decide +kernel)
theorem kt_tuple_tuple : PySem.W.kitOne K (.type "tuple") (.type "tuple") = some true := kit_ty (by decide +kernel)
theorem kt_tuple_dict : PySem.W.kitOne K (.type "tuple") (.type "dict") = some false := kit_ty (by decide +kernel)
theorem kt_dict_int : PySem.W.kitOne K (.type "dict") (.type "int") = some false := kit_ty (by decide +kernel)
theorem kt_dict_str : PySem.W.kitOne K (.type "dict") (.type "str") = some false := kit_ty (by decide +kernel)
theorem kt_dict_bool : PySem.W.kitOne K (.type "dict") (.type "bool") = some false := kit_ty (by decide +kernel)
theorem kt_dict_list : PySem.W.kitOne K (.type "dict") (.type "list") = some false := kit_ty (by decide +kernel)
theorem kt_dict_tuple : PySem.W.kitOne K (.type "dict") (.type "tuple") = some false := kit_ty (by decide +kernel)
theorem kt_dict_dict : PySem.W.kitOne K (.type "dict") (.type "dict") = some true := kit_ty (by decide +kernel)
end
theorem R_of {α : Type} {R : α → Hp → Prop} {v v' : α} {H : Hp} (h : R v H) (e : v = v') : R v' H := e ▸ h
section
variable {K : PySem.W.Frag} {H : Hp} {Q : VK}
theorem q_leStr1 {i j : Str} {a b : Nat} (ha : i.cps.toList = [a]) (hb : j.cps.toList = [b]) (q : Q (.bl (decide (a ≤ b))) H) : rLeStr (.str i) (.str j) H Q := ⟨i, j, rfl, rfl, by
  rw [ha, hb]
  have e : (!decide ([b] < [a])) = decide (a ≤ b) := by
    by_cases h : a ≤ b
    · rw [decide_eq_true h, decide_eq_false]
      · rfl
      · intro z
        have := List.cons_lt_cons_iff.mp z
        simp at this
        omega
    · rw [decide_eq_false h, decide_eq_true]
      · rfl
      · exact List.cons_lt_cons_iff.mpr (.inl (by omega))
  rw [e]
  exact q⟩
theorem q_all {a : Addr} {bs : List Bool} (h : SqL K H a (bs.map V.bl)) (q : Q (.bl (bs.all id)) H) : rAll K [.ref a] H Q := ⟨a, bs, rfl, h, q⟩
theorem q_any {a : Addr} {bs : List Bool} (h : SqL K H a (bs.map V.bl)) (q : Q (.bl (bs.any id)) H) : rAny K [.ref a] H Q := ⟨a, bs, rfl, h, q⟩
end
theorem lc_signsB {z : Str} {i : Nat} {te : TE} {σ : L2.St} {H1 : Hp} {D : Addr} {Qd : Hp → Prop} (f : Nat → Bool) (hn : z.length ≤ 100000) (hD : H1 D = none)
    (he : ∀ c H2 (R : VK), Same H1 H2 → (∀ H4, Same H2 H4 → R (.bl (f c)) H4) → te ((wipe σ [i]).set i (some (.str ⟨#[c]⟩))) H2 R)
    (hd : ∀ H', Same H1 H' → H' D = some (.lst ((z.cps.toList.map f).map V.bl)) → Qd H') :
    ∃ W : Nat → Nat → Hp → Prop, (∃ m, W 0 m (upd H1 D (.lst []))) ∧ ∀ k m H, W k m H →
      ((Its z).stop k H ∧ Qd H) ∨ ((Its z).go k H ∧ ∃ Nx : Hp → Prop, (∀ H', Nx H' → ∃ m', m' < m ∧ W (k + 1) m' H') ∧ ∀ x H', (Its z).yld k H x H' → gName i x (wipe σ [i]) H' fun σ2 H2 => wipe σ2 [i] = wipe σ [i] ∧ tYes σ2 H2 fun b H3 =>
        if b = true then te σ2 H3 fun y H4 => ∃ acc, H4 D = some (.lst acc) ∧ acc.length < sizeLine ∧ Nx (upd H4 D (.lst (acc ++ [y]))) else Nx H3) :=
  lc_signs (fun c => .bl (f c)) hn hD he fun H' s e => hd H' s (by rw [e, List.map_map]; rfl)
theorem at_ints (xs : List Int) (P : Int → Prop) {i : Int} (hP : ∀ x ∈ xs, P x) (h0 : 0 ≤ i) (h1 : i < xs.length) : ∃ m, atI (xs.map V.int) i = some (V.int m) ∧ P m := by
  obtain ⟨j, rfl⟩ := Int.eq_ofNat_of_zero_le h0
  have hj : j < xs.length := by omega
  refine ⟨xs[j], atI_nat (by simp [hj]), hP _ (List.getElem_mem hj)⟩
theorem at_ex {α : Type} {xs : List α} {i : Int} (h0 : 0 ≤ i) (h1 : i < xs.length) : ∃ c, atI xs i = some c := by
  obtain ⟨j, rfl⟩ := Int.eq_ofNat_of_zero_le h0
  have hj : j < xs.length := by omega
  exact ⟨xs[j], atI_nat (by simp [hj])⟩
section
variable {K : PySem.W.Frag} {H : Hp} {Q : VK} {x y : V}
theorem q_eqD {d e : PyData} (hd : Dp K H x d) (he : Dp K H y e) (sd : SeqAt.shaped d = true) (se : SeqAt.shaped e = true) (q : Q (.bl (PyData.eqv d e)) H) : rEqD K x y H Q := ⟨d, e, hd, he, sd, se, q⟩
theorem q_neD {d e : PyData} (hd : Dp K H x d) (he : Dp K H y e) (sd : SeqAt.shaped d = true) (se : SeqAt.shaped e = true) (q : Q (.bl (!PyData.eqv d e)) H) : rNeD K x y H Q := ⟨d, e, hd, he, sd, se, q⟩
end
theorem cs_0 : (Str.ofString "0").cps.toList = [48] := by decide +kernel
theorem cs_9 : (Str.ofString "9").cps.toList = [57] := by decide +kernel
theorem cs_a : (Str.ofString "a").cps.toList = [97] := by decide +kernel
theorem cs_z : (Str.ofString "z").cps.toList = [122] := by decide +kernel
theorem str_one {c d : Nat} {s : Str} (h : s.cps.toList = [d]) : ((⟨#[c]⟩ : Str) = s) ↔ c = d := by
  constructor
  · intro e
    rw [← e] at h
    simpa using h
  · intro e
    subst e
    obtain ⟨l⟩ := s
    congr 1
    exact Array.ext' h.symm
theorem str_len (s : Str) : s.cps.toList.length = s.length := Array.length_toList
theorem in_az (c : Nat) : decide (c ∈ (Str.ofString "abcdefghijklmnopqrstuvwxyz").cps.toList) = (decide (97 ≤ c) && decide (c ≤ 122)) := by
  have e : (Str.ofString "abcdefghijklmnopqrstuvwxyz").cps.toList = List.range' 97 26 := by decide +kernel
  rw [e]
  by_cases h : c ∈ List.range' 97 26
  · rw [decide_eq_true h]
    have := List.mem_range'_1.mp h
    simp
    omega
  · rw [decide_eq_false h]
    have h' : ¬ (97 ≤ c ∧ c < 97 + 26) := fun z => h (List.mem_range'_1.mpr z)
    symm
    simp
    omega
theorem in_09 (c : Nat) : decide (c ∈ (Str.ofString "0123456789").cps.toList) = (decide (48 ≤ c) && decide (c ≤ 57)) := by
  have e : (Str.ofString "0123456789").cps.toList = List.range' 48 10 := by decide +kernel
  rw [e]
  by_cases h : c ∈ List.range' 48 10
  · rw [decide_eq_true h]
    have := List.mem_range'_1.mp h
    simp
    omega
  · rw [decide_eq_false h]
    have h' : ¬ (48 ≤ c ∧ c < 48 + 10) := fun z => h (List.mem_range'_1.mpr z)
    symm
    simp
    omega
theorem len_pos {s : Str} (h : ¬ s = Str.ofString "") : 0 < s.length := by
  rcases Nat.eq_zero_or_pos s.length with e | e
  · exact absurd (by
      obtain ⟨l⟩ := s
      have : l = #[] := Array.eq_empty_of_size_eq_zero e
      rw [this]; rfl) h
  · exact e
/-! ### the rules that read the written part, with it named (a comprehension's block has the same) -/
def rListOf (K : PySem.W.Frag) : List V → Hp → VK → Prop := fun xs H Q => ∃ p ys, xs = [.ref p] ∧ (SqL K H p ys ∨ SqT K H p ys) ∧ ∀ l, H l = none → Q (.ref l) (upd H l (.lst ys))
def rTupleOf (K : PySem.W.Frag) : List V → Hp → VK → Prop := fun xs H Q => ∃ p ys, xs = [.ref p] ∧ ((SqL K H p ys ∧ ∀ l, H l = none → Q (.ref l) (upd H l (.tup ys))) ∨ (SqT K H p ys ∧ Q (.ref p) H))
section
variable {X : Cx} {K : PySem.W.Frag}
theorem kx_isi (hK : X.K = K) : CallR X (.builtin "isinstance") (rIsi K) := by subst hK; exact call_isi
theorem kx_isiT (hK : X.K = K) : CallR X (.builtin "isinstance") (rIsiT K) := by subst hK; exact call_isiT
theorem kx_len (hK : X.K = K) : CallR X (.builtin "len") (rLenA K) := by subst hK; exact call_lenA
theorem kx_all (hK : X.K = K) (hc : X.calm = true) : CallR X (.builtin "all") (rAll K) := by subst hK; exact cr_all hc
theorem kx_any (hK : X.K = K) (hc : X.calm = true) : CallR X (.builtin "any") (rAny K) := by subst hK; exact cr_any hc
theorem kx_sum (hK : X.K = K) (hc : X.calm = true) : CallR X (.builtin "sum") (rSum K) := by subst hK; exact cr_sum hc
theorem kx_max (hK : X.K = K) (hc : X.calm = true) : CallR X (.builtin "max") (rMax K) := by subst hK; exact cr_max hc
theorem kx_min (hK : X.K = K) (hc : X.calm = true) : CallR X (.builtin "min") (rMin K) := by subst hK; exact cr_min hc
theorem kx_list (hK : X.K = K) : CallR X (.type "list") (rListOf K) := by subst hK; exact call_list_of
theorem kx_tuple (hK : X.K = K) : CallR X (.type "tuple") (rTupleOf K) := by subst hK; exact call_tuple_of
theorem ko_eqD (hK : X.K = K) (hu : X.A.units + 64 < cLine) : OpR X (compareOp .Eq) (rEqD K) := by subst hK; exact op_eqD hu
theorem ko_neD (hK : X.K = K) (hu : X.A.units + 64 < cLine) : OpR X (compareOp .NotEq) (rNeD K) := by subst hK; exact op_neD hu
theorem ko_in (hK : X.K = K) : OpR X (compareOp .In) (rIn K false) := by subst hK; exact op_in_seq
theorem ko_notIn (hK : X.K = K) : OpR X (compareOp .NotIn) (rIn K true) := by subst hK; exact op_notIn_seq
theorem ki_list (hK : X.K = K) : IxR X (rIxL K) := by subst hK; exact ix_list
theorem ki_tup (hK : X.K = K) : IxR X (rIxT K) := by subst hK; exact ix_tup
theorem ks_list (hK : X.K = K) : SlR X (rSlL K) := by subst hK; exact sl_list
theorem ks_tup (hK : X.K = K) : SlR X (rSlT K) := by subst hK; exact sl_tup
theorem kp_fld {e : Expr} {ta : TE} {f : Str} {pos : Pos} (hK : X.K = K) (he : PE X e ta) (hb : attributeBase e f X.env (eval e X.env) = eval e X.env) : PE X (.Attribute e f pos) (tFld K ta f) := by subst hK; exact pe_fld he hb
theorem kpi_list {tg e : Expr} {tl : TE} (hK : X.K = K) (he : PE X e tl) : PI X tg e (iList K tl) := by subst hK; exact pi_list he
theorem kpi_tup {tg e : Expr} {tl : TE} (hK : X.K = K) (he : PE X e tl) : PI X tg e (iTup K tl) := by subst hK; exact pi_tup he
end
section
variable {K : PySem.W.Frag} {H : Hp} {Q : VK} {p : Addr}
theorem q_listL {xs : List V} (h : SqL K H p xs) (q : ∀ l, H l = none → Q (.ref l) (upd H l (.lst xs))) : rListOf K [.ref p] H Q := ⟨p, xs, rfl, .inl h, q⟩
theorem q_listT {xs : List V} (h : SqT K H p xs) (q : ∀ l, H l = none → Q (.ref l) (upd H l (.lst xs))) : rListOf K [.ref p] H Q := ⟨p, xs, rfl, .inr h, q⟩
theorem q_tupleL {xs : List V} (h : SqL K H p xs) (q : ∀ l, H l = none → Q (.ref l) (upd H l (.tup xs))) : rTupleOf K [.ref p] H Q := ⟨p, xs, rfl, .inl ⟨h, q⟩⟩
theorem q_tupleT {xs : List V} (h : SqT K H p xs) (q : Q (.ref p) H) : rTupleOf K [.ref p] H Q := ⟨p, xs, rfl, .inr ⟨h, q⟩⟩
theorem q_sum {ns : List Int} (h : SqL K H p (ns.map V.int)) (q : Q (.int ns.sum) H) : rSum K [.ref p] H Q := ⟨p, ns, rfl, h, q⟩
end
section
variable {α : Type} {a b c d e : α} {xs : List α}
theorem at0 : atI (a :: xs) 0 = some a := atI_nat (j := 0) rfl
theorem at1 : atI (a :: b :: xs) 1 = some b := atI_nat (j := 1) rfl
theorem at2 : atI (a :: b :: c :: xs) 2 = some c := atI_nat (j := 2) rfl
theorem at3 : atI (a :: b :: c :: d :: xs) 3 = some d := atI_nat (j := 3) rfl
theorem at4 : atI (a :: b :: c :: d :: e :: xs) 4 = some e := atI_nat (j := 4) rfl
end
/-- forget how the heap came to be: what is known of it goes on -/
theorem abs_q {α : Type} {R : Hp → α → Prop} {H : Hp} {Q : α} (F : Hp → Prop) (h : F H) (k : ∀ H', F H' → R H' Q) : R H Q := k H h
theorem abs_s {R : Hp → Prop} {H : Hp} (F : Hp → Prop) (h : F H) (k : ∀ H', F H' → R H') : R H := k H h
section
variable {K : PySem.W.Frag} {H : Hp} {Q : VK} {x y : V}
theorem q_eqDt {d e : PyData} (hd : Dp K H x d) (he : Dp K H y e) (sd : SeqAt.shaped d = true) (se : SeqAt.shaped e = true) (h : PyData.eqv d e = true) (q : Q (.bl true) H) : rEqD K x y H Q := ⟨d, e, hd, he, sd, se, by rw [h]; exact q⟩
theorem q_neDt {d e : PyData} (hd : Dp K H x d) (he : Dp K H y e) (sd : SeqAt.shaped d = true) (se : SeqAt.shaped e = true) (h : PyData.eqv d e = true) (q : Q (.bl false) H) : rNeD K x y H Q := ⟨d, e, hd, he, sd, se, by rw [h]; exact q⟩
end
/-- over a list that stays, each element a function of the item -/
theorem lc_items {K : PySem.W.Frag} {a : Addr} {xs : List V} {i : Nat} {te : TE} {σ : L2.St} {H1 : Hp} {D : Addr} {Qd : Hp → Prop} (f : V → V) (hl : SqL K H1 a xs) (hn : xs.length ≤ 100000) (hD : H1 D = none)
    (he : ∀ x ∈ xs, ∀ H2 (R : VK), Same H1 H2 → (∀ H4, Same H2 H4 → R (f x) H4) → te ((wipe σ [i]).set i (some x)) H2 R)
    (hd : ∀ H', Same H1 H' → H' D = some (.lst (xs.map f)) → Qd H') :
    ∃ W : Nat → Nat → Hp → Prop, (∃ m, W 0 m (upd H1 D (.lst []))) ∧ ∀ k m H, W k m H →
      ((Itl K a).stop k H ∧ Qd H) ∨ ((Itl K a).go k H ∧ ∃ Nx : Hp → Prop, (∀ H', Nx H' → ∃ m', m' < m ∧ W (k + 1) m' H') ∧ ∀ x H', (Itl K a).yld k H x H' → gName i x (wipe σ [i]) H' fun σ2 H2 => wipe σ2 [i] = wipe σ [i] ∧ tYes σ2 H2 fun b H3 =>
        if b = true then te σ2 H3 fun y H4 => ∃ acc, H4 D = some (.lst acc) ∧ acc.length < sizeLine ∧ Nx (upd H4 D (.lst (acc ++ [y]))) else Nx H3) := by
  refine lc_grow walk_list (xs.map f) (by simp) hn (fun _ s => s.seq hl) hD ?_ hd (fun _ _ _ _ q h => q _ _ h)
  rintro k x H2 H' R hk s2 ⟨rfl, hx⟩ hR
  refine ⟨wipe_set, he x (List.mem_of_getElem? hx) H' R s2 fun H4 s4 => hR _ _ ?_ s4⟩
  rw [List.getElem?_map, hx]
  rfl
theorem lc_itemsB {K : PySem.W.Frag} {a : Addr} {xs : List V} {i : Nat} {te : TE} {σ : L2.St} {H1 : Hp} {D : Addr} {Qd : Hp → Prop} (f : V → Bool) (hl : SqL K H1 a xs) (hn : xs.length ≤ 100000) (hD : H1 D = none)
    (he : ∀ x ∈ xs, ∀ H2 (R : VK), Same H1 H2 → (∀ H4, Same H2 H4 → R (.bl (f x)) H4) → te ((wipe σ [i]).set i (some x)) H2 R)
    (hd : ∀ H', Same H1 H' → H' D = some (.lst ((xs.map f).map V.bl)) → Qd H') :
    ∃ W : Nat → Nat → Hp → Prop, (∃ m, W 0 m (upd H1 D (.lst []))) ∧ ∀ k m H, W k m H →
      ((Itl K a).stop k H ∧ Qd H) ∨ ((Itl K a).go k H ∧ ∃ Nx : Hp → Prop, (∀ H', Nx H' → ∃ m', m' < m ∧ W (k + 1) m' H') ∧ ∀ x H', (Itl K a).yld k H x H' → gName i x (wipe σ [i]) H' fun σ2 H2 => wipe σ2 [i] = wipe σ [i] ∧ tYes σ2 H2 fun b H3 =>
        if b = true then te σ2 H3 fun y H4 => ∃ acc, H4 D = some (.lst acc) ∧ acc.length < sizeLine ∧ Nx (upd H4 D (.lst (acc ++ [y]))) else Nx H3) :=
  lc_items (fun x => .bl (f x)) hl hn hD he fun H' s e => hd H' s (by rw [e, List.map_map]; rfl)
section
variable {H : Hp} {Q : VK} {a b : Bool} {A B : Prop}
theorem q_isT (q : Q (.bl a) H) : rIsB (.bl a) (.bl true) H Q := ⟨a, true, rfl, rfl, by have e : decide (a = true) = a := by cases a <;> rfl
                                                                                        rw [e]; exact q⟩
theorem q_isF (q : Q (.bl (!a)) H) : rIsB (.bl a) (.bl false) H Q := ⟨a, false, rfl, rfl, by have e : decide (a = false) = !a := by cases a <;> rfl
                                                                                             rw [e]; exact q⟩
theorem q_notT (q : Q (.bl (!a)) H) : rNotB (.bl a) (.bl true) H Q := ⟨a, true, rfl, rfl, by have e : (!decide (a = true)) = !a := by cases a <;> rfl
                                                                                             rw [e]; exact q⟩
theorem q_notF (q : Q (.bl a) H) : rNotB (.bl a) (.bl false) H Q := ⟨a, false, rfl, rfl, by have e : (!decide (a = false)) = a := by cases a <;> rfl
                                                                                            rw [e]; exact q⟩
theorem q_ifA (h : if a = true then (if b = true then A else B) else B) : if (a && b) = true then A else B := by
  cases a <;> cases b <;> exact h
theorem q_ifO (h : if a = true then A else (if b = true then A else B)) : if (a || b) = true then A else B := by
  cases a <;> cases b <;> exact h
end
/-- all but the object at p stands as it stood -/
def Fr1 (p : Addr) (H H' : Hp) : Prop := ∀ b o, b ≠ p → H b = some o → H' b = some o
theorem fr1_at {p b : Addr} {H H' : Hp} {o : HO} (f : Fr1 p H H') (n : b ≠ p) (h : H b = some o) : H' b = some o := f b o n h
theorem same_at {b : Addr} {H H' : Hp} {o : HO} (s : Same H H') (h : H b = some o) : H' b = some o := s b o h
section
variable {K : PySem.W.Frag} {σ : L2.St} {H H' : Hp} {Q : VK} {x : V} {t : Value} {p : Addr}
theorem q_dnewK (h : ∀ p, H p = none → Q (.ref p) (upd H p (.dK []))) : tDNewK σ H Q := h
theorem q_disp {trs : List (TE × TE)} (h : ∀ p, H p = none → tPairs trs σ (upd H p (.dK [])) fun ps H2 => H2 p = some (.dK []) ∧ ∃ kvs : List (Key × V), ps = kvs.map (fun kv => (kV kv.1, kv.2)) ∧ kvs.length ≤ 15 ∧ Q (.ref p) (upd H2 p (.dK (mergeK [] kvs)))) : tDisp trs σ H Q := h
theorem q_pairs0 {Q : List (V × V) → Hp → Prop} (h : Q [] H) : tPairs [] σ H Q := h
theorem q_pairs {tk tv : TE} {r : List (TE × TE)} {Q : List (V × V) → Hp → Prop} (h : tk σ H fun x H1 => tv σ H1 fun y H2 => tPairs r σ H2 fun ps H3 => Q ((x, y) :: ps) H3) : tPairs ((tk, tv) :: r) σ H Q := h
theorem q_kvs {ps : List (V × V)} {P : List (Key × V) → Prop} (kvs : List (Key × V)) (h : H p = some (.dK [])) (e : ps = kvs.map fun kv => (kV kv.1, kv.2)) (hl : kvs.length ≤ 15) (q : P kvs) : H p = some (.dK []) ∧ ∃ kvs : List (Key × V), ps = kvs.map (fun kv => (kV kv.1, kv.2)) ∧ kvs.length ≤ 15 ∧ P kvs := ⟨h, kvs, e, hl, q⟩
theorem q_isiT {tp : Addr} {cs : List V} {us : List Value} {b : Bool} (h : H tp = some (.tup cs)) (hp : Paired ClsV cs us) (ht : TyX K H x t) (hk : PySem.W.kitAny K t us = some b) (q : Q (.bl b) H) : rIsiT K [x, .ref tp] H Q := ⟨x, tp, cs, t, us, b, rfl, h, hp, ht, hk, q⟩
theorem _root_.L2.TyX.mono (h : TyX K H x t) (s : Same H H') : TyX K H' x t := by
  cases h with
  | base h =>
    refine .base ?_
    cases h with
    | non => exact .non
    | bl y => exact .bl y
    | int i => exact .int i
    | str y => exact .str y
    | flt y => exact .flt y
    | lst e => exact .lst (s _ _ e)
    | frz e => exact .frz (s _ _ e)
    | tup e => exact .tup (s _ _ e)
    | dK e => exact .dK (s _ _ e)
    | dT e => exact .dT (s _ _ e)
    | ins e cl ha hn htk hm => exact .ins (s _ _ e) cl ha hn htk hm
  | byt y => exact .byt y
  | set e => exact .set (s _ _ e)
  | kList e c => exact .kList e c
  | kTuple e c => exact .kTuple e c
  | kDict e c => exact .kDict e c
  | fTuple e => exact .fTuple (s _ _ e)
  | fDict e => exact .fDict (s _ _ e)
end
section
variable {K : PySem.W.Frag} {t c : Value} {r : List Value} {b : Bool}
theorem ka_nil : PySem.W.kitAny K t [] = some false := rfl
theorem ka_t (h : PySem.W.kitOne K t c = some true) : PySem.W.kitAny K t (c :: r) = some true := by
  unfold PySem.W.kitAny
  rw [h]
theorem ka_f (h : PySem.W.kitOne K t c = some false) (h2 : PySem.W.kitAny K t r = some b) : PySem.W.kitAny K t (c :: r) = some b := by
  unfold PySem.W.kitAny
  rw [h]
  exact h2
end
theorem upd_free {H : Hp} {a b : Addr} {o : HO} (e : upd H a o b = none) : H b = none := by
  unfold upd at e
  split at e
  · cases e
  · exact e
section
variable {K : PySem.W.Frag} {σ : L2.St} {H : Hp} {Q : VK} {D : Ends} {ta tv : TE} {f g : Str} {a C dx : Addr} {fs : List (Str × V)} {v y : V}
theorem q_sfld (h : tv σ H fun y H1 => ta σ H1 fun x H2 => ∃ a C dx fs, x = .ref a ∧ H2 a = some (.ins C dx fs) ∧ Cls K C ∧ NoAttr K C f ∧ fs.length < 1000 ∧ D.nx σ (upd H2 a (.ins C dx (putF f y fs)))) : sFld K ta tv f D σ H := h
theorem q_sfldb {P : Addr → Addr → Addr → List (Str × V) → Prop} (h1 : H a = some (.ins C dx fs)) (hc : Cls K C) (hn : NoAttr K C f) (hl : fs.length < 1000) (h : P a C dx fs) : ∃ b C dx fs, V.ref a = .ref b ∧ H b = some (.ins C dx fs) ∧ Cls K C ∧ NoAttr K C f ∧ fs.length < 1000 ∧ P b C dx fs := ⟨a, C, dx, fs, rfl, h1, hc, hn, hl, h⟩
theorem q_fldb (h1 : H a = some (.ins C dx fs)) (hc : Cls K C) (hn : NoAttr K C f) (hl : fs.lookup f = some v) (h : Q v H) : ∃ b C dx fs v, V.ref a = .ref b ∧ H b = some (.ins C dx fs) ∧ Cls K C ∧ NoAttr K C f ∧ fs.lookup f = some v ∧ Q v H := ⟨a, C, dx, fs, v, rfl, h1, hc, hn, hl, h⟩
theorem lu_hd : List.lookup f ((f, v) :: fs) = some v := by simp [List.lookup]
theorem lu_tl (h : ¬ f = g) : List.lookup f ((g, y) :: fs) = List.lookup f fs := by
  have e : (f == g) = false := by simpa using h
  simp [List.lookup, e]
end
/-- items that are ints from 0 on -/
def NN (xs : List V) : Prop := ∀ x ∈ xs, ∃ n : Int, x = .int n ∧ 0 ≤ n
theorem NN.nil : NN [] := fun _ h => by cases h
theorem NN.cons {n : Int} {xs : List V} (h : 0 ≤ n) (t : NN xs) : NN (.int n :: xs) := fun x hx => by
  rcases List.mem_cons.mp hx with rfl | hx
  · exact ⟨n, rfl, h⟩
  · exact t x hx
theorem NN.of {ns : List Int} (h : ∀ n ∈ ns, 0 ≤ n) : NN (ns.map V.int) := fun x hx => by
  obtain ⟨n, hm, rfl⟩ := List.mem_map.mp hx
  exact ⟨n, rfl, h n hm⟩
theorem set_self {σ : L2.St} {i : Nat} {v : Option V} (h : σ[i]? = some v) : σ.set i v = σ := by
  obtain ⟨hi, e⟩ := List.getElem?_eq_some_iff.mp h
  rw [← e]
  exact List.set_getElem_self hi
/-- a loop over a list whose turns store nothing but its name, and let the heap grow -/
theorem for_grow {K : PySem.W.Frag} {a : Addr} {xs : List V} {i : Nat} {tb : TS} {D : Ends} {σ : L2.St} {H : Hp} {v0 : Option V} (hl : SqL K H a xs) (hi : σ[i]? = some v0)
    (hb : ∀ x ∈ xs, ∀ H2, Same H H2 → ∀ N : L2.St → Hp → Prop, (∀ H3, Same H2 H3 → N (σ.set i (some x)) H3) → tb { D with nx := N, ct := N, bk := D.nx } (σ.set i (some x)) H2)
    (hd : ∀ v H', Same H H' → D.nx (σ.set i v) H') :
    ∃ W : Nat → Nat → L2.St → Hp → Prop, (∃ m, W 0 m σ H) ∧ ∀ k m σ H, W k m σ H →
      ((Itl K a).stop k H ∧ D.nx σ H) ∨ ((Itl K a).go k H ∧ ∃ N : L2.St → Hp → Prop, (∀ σ' H', N σ' H' → ∃ m', m' < m ∧ W (k + 1) m' σ' H') ∧ ∀ x H', (Itl K a).yld k H x H' → gName i x σ H' fun σ2 H2 => tb { D with nx := N, ct := N, bk := D.nx } σ2 H2) := by
  refine for_list (K := K) (a := a) (xs := xs) (fun k σ' H' => (∃ v, σ' = σ.set i v) ∧ Same H H') ⟨⟨v0, (set_self hi).symm⟩, Same.refl H⟩ (fun k σ' H' _ h => h.2.seq hl) ?_ ?_
  · rintro k x σ' H' hx ⟨⟨v, rfl⟩, s⟩
    show tb _ ((σ.set i v).set i (some x)) H'
    rw [List.set_set]
    exact hb x (List.mem_of_getElem? hx) H' s _ fun H3 s3 => ⟨⟨some x, rfl⟩, s.trans s3⟩
  · rintro σ' H' ⟨⟨v, rfl⟩, s⟩
    exact hd v H' s
theorem q_nn {P : Prop} (h : P) : V.non = V.non ∧ P := ⟨rfl, h⟩
theorem _root_.L2.Same.fr1 {H H1 H2 : Hp} {p : Addr} (s : Same H H1) (f : Fr1 p H1 H2) (h : H p = none) : Same H H2 := fun b o e => f b o (ne_of_none e h) (s b o e)
theorem cutV_mem {xs : List V} {lo hi : Option Int} {x : V} (h : x ∈ cutV xs lo hi) : x ∈ xs := List.mem_of_mem_drop (List.mem_of_mem_take h)
theorem Fr1.refl {p : Addr} {H : Hp} : Fr1 p H H := fun _ _ _ e => e
theorem Fr1.upd {p : Addr} {H H' : Hp} {o : HO} (f : Fr1 p H H') : Fr1 p H (upd H' p o) := fun b u n e => by
  rw [upd_ne n]
  exact f b u n e
theorem kit_sub {K : PySem.W.Frag} {C : Addr} {T : String} {b : Bool} (h0 : PySem.W.kitMeta T = true) (h : PySem.W.subIn K (.ref C) (.type T) = some b) : PySem.W.kitOne K (.ref C) (.type T) = some b := by
  have e : (Value.ref C == Value.type T) = false := rfl
  unfold PySem.W.kitOne
  rw [e, if_neg (by decide)]
  show (if PySem.W.kitMeta T = true then _ else _) = _
  rw [if_pos h0]
  exact h
/-- the same, with a word about the heap that the turns keep, in place of the heap itself -/
theorem for_growF {K : PySem.W.Frag} {a : Addr} {xs : List V} {i : Nat} {tb : TS} {D : Ends} {σ : L2.St} {H : Hp} {v0 : Option V} (F : Hp → Prop) (hF : F H) (hl : ∀ H1, F H1 → SqL K H1 a xs) (hi : σ[i]? = some v0)
    (hb : ∀ x ∈ xs, ∀ H2, F H2 → ∀ N : L2.St → Hp → Prop, (∀ H3, F H3 → N (σ.set i (some x)) H3) → tb { D with nx := N, ct := N, bk := D.nx } (σ.set i (some x)) H2)
    (hd : ∀ v H', F H' → D.nx (σ.set i v) H') :
    ∃ W : Nat → Nat → L2.St → Hp → Prop, (∃ m, W 0 m σ H) ∧ ∀ k m σ H, W k m σ H →
      ((Itl K a).stop k H ∧ D.nx σ H) ∨ ((Itl K a).go k H ∧ ∃ N : L2.St → Hp → Prop, (∀ σ' H', N σ' H' → ∃ m', m' < m ∧ W (k + 1) m' σ' H') ∧ ∀ x H', (Itl K a).yld k H x H' → gName i x σ H' fun σ2 H2 => tb { D with nx := N, ct := N, bk := D.nx } σ2 H2) := by
  refine for_list (K := K) (a := a) (xs := xs) (fun k σ' H' => (∃ v, σ' = σ.set i v) ∧ F H') ⟨⟨v0, (set_self hi).symm⟩, hF⟩ (fun k σ' H' _ h => hl H' h.2) ?_ ?_
  · rintro k x σ' H' hx ⟨⟨v, rfl⟩, s⟩
    show tb _ ((σ.set i v).set i (some x)) H'
    rw [List.set_set]
    exact hb x (List.mem_of_getElem? hx) H' s _ fun H3 s3 => ⟨⟨some x, rfl⟩, s3⟩
  · rintro σ' H' ⟨⟨v, rfl⟩, s⟩
    exact hd v H' s
theorem at_strs (xs : List Str) (P : Str → Prop) {i : Int} (hP : ∀ x ∈ xs, P x) (h0 : 0 ≤ i) (h1 : i < xs.length) : ∃ m, atI (xs.map V.str) i = some (V.str m) ∧ P m := by
  obtain ⟨j, rfl⟩ := Int.eq_ofNat_of_zero_le h0
  have hj : j < xs.length := by omega
  refine ⟨xs[j], atI_nat (by simp [hj]), hP _ (List.getElem_mem hj)⟩

/-! ### readings of the words for exceptions, own objects, comprehensions of any walk -/
section
variable {σ : L2.St} {H : Hp} {Q : VK} {D : Ends} {C a dx : Addr} {m f : Str} {fs : List (Str × V)} {E : L2.St → XK} {sp : Sp} {te ta : TE} {t : TA}
theorem q_callSD (h : t σ H fun vs H1 => sp vs H1 Q (E σ)) : tCallSD sp [] E t σ H Q := by
  have e : (fun vs H1 => sp (vs ++ []) H1 Q (E σ)) = fun vs H1 => sp vs H1 Q (E σ) := by
    funext vs H1
    rw [List.append_nil]
  show t σ H fun vs H1 => sp (vs ++ []) H1 Q (E σ)
  rw [e]
  exact h
theorem q_callSDd {dvs : List V} (h : t σ H fun vs H1 => sp (vs ++ dvs) H1 Q (E σ)) : tCallSD sp dvs E t σ H Q := h
theorem q_methE (h : ta σ H fun x H1 => ∃ a dx fs, x = .ref a ∧ H1 a = some (.ins C dx fs) ∧ fs.lookup m = none ∧ t σ H1 fun vs H2 => sp (x :: vs) H2 Q (E σ)) : tMethE C m sp [] E ta t σ H Q := by
  unfold tMethE
  simp only [List.append_nil]
  exact h
theorem q_methEd {dvs : List V} (h : ta σ H fun x H1 => ∃ a dx fs, x = .ref a ∧ H1 a = some (.ins C dx fs) ∧ fs.lookup m = none ∧ t σ H1 fun vs H2 => sp (x :: (vs ++ dvs)) H2 Q (E σ)) : tMethE C m sp dvs E ta t σ H Q := h
theorem q_methd {dvs : List V} {E : XK} (h : ta σ H fun x H1 => ∃ a dx fs, x = .ref a ∧ H1 a = some (.ins C dx fs) ∧ fs.lookup m = none ∧ t σ H1 fun vs H2 => sp (x :: (vs ++ dvs)) H2 Q E) : tMeth C m sp dvs E ta t σ H Q := h
theorem q_makeE (h : t σ H fun vs H1 => ∀ x dx, H1 x = none → H1 dx = none → dx ≠ x → sp (.ref x :: vs) (upd (upd H1 dx (.own x)) x (.ins C dx [])) (fun v H2 => v = .non ∧ Q (.ref x) H2) (E σ)) : tMakeE C sp [] E t σ H Q := by
  unfold tMakeE
  simp only [List.append_nil]
  exact h
theorem q_methb {P : Prop} (h1 : H a = some (.ins C dx fs)) (h2 : fs.lookup m = none) (h : P) : ∃ b dx fs, V.ref a = .ref b ∧ H b = some (.ins C dx fs) ∧ fs.lookup m = none ∧ P := ⟨a, dx, fs, rfl, h1, h2, h⟩
theorem q_lenO (h1 : H a = some (.ins C dx fs)) {P : Addr → Prop} (h : P a) : ∃ b dx fs, [V.ref a] = [.ref b] ∧ H b = some (.ins C dx fs) ∧ P b := ⟨a, dx, fs, rfl, h1, h⟩
theorem q_lenI {n : Int} {P : Int → Prop} (h0 : 0 ≤ n) (h1 : n < 2 ^ 63) (h : P n) : ∃ k : Int, V.int n = .int k ∧ 0 ≤ k ∧ k < 2 ^ 63 ∧ P k := ⟨n, rfl, h0, h1, h⟩
theorem q_eqO {b dy : Addr} {gs : List (Str × V)} {P : Addr → Addr → Prop} (h1 : H a = some (.ins C dx fs)) (h2 : H b = some (.ins C dy gs)) (h : P a b) : ∃ a' dx fs b' dy gs, V.ref a = .ref a' ∧ V.ref b = .ref b' ∧ H a' = some (.ins C dx fs) ∧ H b' = some (.ins C dy gs) ∧ P a' b' := ⟨a, dx, fs, b, dy, gs, rfl, rfl, h1, h2, h⟩
theorem q_bz {z : Bool} {P : Bool → Prop} (h : P z) : ∃ y, V.bl z = .bl y ∧ P y := ⟨z, rfl, h⟩
end
theorem room128 {k : Nat} {A : Around} (r : Room k A) : A.units + 128 < cLine := by
  have := r.un
  omega
theorem q_fldP {K : PySem.W.Frag} {H : Hp} {a C dx : Addr} {fs : List (Str × V)} {f : Str} {v : V} {P : V → Prop} (h1 : H a = some (.ins C dx fs)) (hc : Cls K C) (hn : NoAttr K C f) (hl : fs.lookup f = some v) (h : P v) : ∃ b C dx fs v, V.ref a = .ref b ∧ H b = some (.ins C dx fs) ∧ Cls K C ∧ NoAttr K C f ∧ fs.lookup f = some v ∧ P v := ⟨a, C, dx, fs, v, rfl, h1, hc, hn, hl, h⟩
theorem kg_tup {X : Cx} {K : PySem.W.Frag} {es : List Expr} {k : Nat} {pos : Pos} {t : TGs} {n : Nat} (hK : X.K = K) (hc : X.calm = true) (h : PGs X es t) (hn : (assignEach es X.env).length = n := by rfl) (hst : (assignEach es X.env).findIdx? (·.1) = none := by rfl) : PG X (.Tuple es k pos) (gTup K n t) := by
  subst hK
  exact pg_tup hc h hn hst
theorem lu_nil {f : Str} {α : Type} : List.lookup f ([] : List (Str × α)) = none := rfl
theorem lu_tlN {f g : Str} {y : V} {fs : List (Str × V)} (h : ¬ f = g) (h2 : List.lookup f fs = none) : List.lookup f ((g, y) :: fs) = none := by rw [lu_tl h, h2]
/-! raise, try -/
def WEx (W : WX) : L2.St → XK := fun σ cls d H => W cls d σ H
theorem passX {X : Cx} {W : WX} (tk : Takes X W) (σ : L2.St) : PassesAt (L2.CX X.prog X.w) X σ (WEx W σ) := passAt tk σ
def tRaise (te : TE) (C : Addr) (f : Str) (W : WX) : TS := fun _ σ H => te σ H fun v H1 => ∀ d, H1 d = none → W (.ref C) (some d) σ (upd H1 d (.xd [(f, v)]))
def tTry (tb : WX → TS) (Wout : WX) (l : List Clause) : TS := fun D σ H => tb (wTry Wout D l) D σ H
theorem ps_raiseX {X : Cx} {W : WX} {x f : Str} {e : Expr} {te : TE} {p pos pos' : Pos} {C fI : Addr} {B newId initId : String} {bmB : List Value} (hc : X.calm = true) (tk : Takes X W) (hP : PF X.prog) (T : OexS X.K C fI B newId initId bmB f) (hs : X.mg "super" = none) (hr : Room 2 X.A) (hg : Gl X x) (gC : X.mg x = some (.ref C)) (he : PE X e te) (hdb : (x == ("__debug__" : Str)) = false := by decide)
    (hse : starEach [e] X.env = (false, eval e X.env) :: starEach [] X.env := by rfl) : PS X (.Raise (some (.Call (.Name x p) [e] [] pos)) none pos') (tRaise te C f W) := ps_raise hc tk (pmk_exs hP T hs hr hg gC he hdb hse)
theorem ps_tryX {X : Cx} {Wout : WX} {body : List Stmt} {h₀ : ExceptHandler} {hds : List ExceptHandler} {l : List Clause} {pos : Pos} {tb : WX → TS} (hs : X.stack = X.env :: X.outer) (hf : X.env.frame = some X.env.locals) (hN : X.N.Nodup) (tk : Takes X Wout)
    (hb : ∀ (W : WX) (pn : List (Addr × Obj)) (xe : Value → Shared → Prop), Takes (X.tr pn xe) W → PassesOwn (model X.prog X.w) X.A X.env xe → PSs (X.tr pn xe) body (tb W))
    (hh : ClsOk X (h₀ :: hds) l) : PS X (.Try body (h₀ :: hds) [] [] pos) (tTry tb Wout l) := ps_try_g hs hf hN tk hb hh
section
variable {σ : L2.St} {H : Hp} {Q : VK} {D : Ends} {C d0 : Addr} {f : Str} {te : TE} {W Wout : WX} {tb : WX → TS} {l r : List Clause} {cls : Value} {d : Option Addr} {cf : Value → Option Bool} {i : Nat} {ts : Addr → Value → Option Addr → TS}
theorem q_raise (h : te σ H fun v H1 => ∀ d, H1 d = none → W (.ref C) (some d) σ (upd H1 d (.xd [(f, v)]))) : tRaise te C f W D σ H := h
theorem q_try (h : tb (wTry Wout D l) D σ H) : tTry tb Wout l D σ H := h
theorem q_wE (h : W cls d σ H) : WEx W σ cls d H := h
theorem q_clN (hb : cf cls = some true) (h : ∀ a, H a = none → ts a cls d (goneE i D) (σ.set i (some (.ref a))) H) : wTry Wout D ((cf, some i, ts) :: l) cls d σ H := ⟨true, hb, by rw [if_pos rfl]; exact h⟩
theorem q_clN0 (hb : cf cls = some false) (h : wTry Wout D l cls d σ H) : wTry Wout D ((cf, some i, ts) :: l) cls d σ H := ⟨false, hb, by rw [if_neg Bool.false_ne_true]; exact h⟩
theorem q_clP (hb : cf cls = some true) (h : ∀ a, H a = none → ts a cls d D σ H) : wTry Wout D ((cf, none, ts) :: l) cls d σ H := ⟨true, hb, by rw [if_pos rfl]; exact h⟩
theorem q_clP0 (hb : cf cls = some false) (h : wTry Wout D l cls d σ H) : wTry Wout D ((cf, none, ts) :: l) cls d σ H := ⟨false, hb, by rw [if_neg Bool.false_ne_true]; exact h⟩
theorem q_xg {K : PySem.W.Frag} {a : Addr} (h : te σ H fun x H1 => ∃ (D dd : Addr) (fs : List (Str × V)) (v : V), x = .ref a ∧ cls = .ref D ∧ d = some dd ∧ XfC K D ∧ PySem.W.findIn K (.ref D) f = some none ∧ H1 dd = some (.xd fs) ∧ fs.lookup f = some v ∧ Q v H1) : tXg K a cls d f te σ H Q := h
theorem q_xgb {K : PySem.W.Frag} {a Dc dd : Addr} {fs : List (Str × V)} {v : V} (h1 : H dd = some (.xd fs)) (h2 : XfC K Dc) (h3 : PySem.W.findIn K (.ref Dc) f = some none) {P : V → Prop} (h4 : fs.lookup f = some v) (h : P v) : ∃ (D dd' : Addr) (fs : List (Str × V)) (v : V), V.ref a = .ref a ∧ Value.ref Dc = .ref D ∧ some dd = some dd' ∧ XfC K D ∧ PySem.W.findIn K (.ref D) f = some none ∧ H dd' = some (.xd fs) ∧ fs.lookup f = some v ∧ P v := ⟨Dc, dd, fs, v, rfl, rfl, rfl, h2, h3, h1, h4, h⟩
theorem q_isX {K : PySem.W.Frag} {a Dc dd : Addr} {fs : List (Str × V)} {c : V} {cv : Value} {b : Bool} (h1 : H dd = some (.xd fs)) (h2 : ExcC K Dc) (h3 : ClsV c cv) (h4 : PySem.W.kitOne K (.ref Dc) cv = some b) (h : Q (.bl b) H) : rIsX K a (.ref Dc) (some dd) [.ref a, c] H Q := ⟨Dc, dd, fs, c, cv, b, rfl, rfl, rfl, h1, h2, h3, h4, h⟩
end
section
variable {K : PySem.W.Frag} {cls c : Value} {r : List Value} {b b2 : Bool}
theorem xa_nil : PySem.W.exmAny K cls [] = some false := rfl
theorem xa_cons (h1 : PySem.W.exmOne K cls c = some b) (h2 : PySem.W.exmAny K cls r = some b2) : PySem.W.exmAny K cls (c :: r) = some (b || b2) := by
  unfold PySem.W.exmAny
  rw [h1, h2]
theorem kit_ref {D C : Addr} (hd : PySem.W.hasDictIn K C = true) (ht : PySem.W.typeIn K (.ref C) = some (.type "type")) (hs : PySem.W.subIn K (.ref C) (.ref C) = some true) (h : PySem.W.subIn K (.ref D) (.ref C) = some b) : PySem.W.kitOne K (.ref D) (.ref C) = some b := by
  unfold PySem.W.kitOne
  by_cases e : D = C
  · subst e
    rw [if_pos (beq_self_eq_true _)]
    exact hs.symm.trans h
  · have e' : (Value.ref D == Value.ref C) = false := by simpa using e
    rw [e', if_neg Bool.false_ne_true]
    obtain ⟨cd, hc, _⟩ := PySem.W.any_some hd
    have e2 : ((PySem.W.clsIn K C).isSome && PySem.W.typeIn K (.ref C) == some (.type "type")) = true := by rw [hc, ht]; rfl
    show (if ((PySem.W.clsIn K C).isSome && PySem.W.typeIn K (.ref C) == some (.type "type")) = true then PySem.W.subIn K (.ref D) (.ref C) else none) = some b
    rw [if_pos e2]
    exact h
theorem kit_self {C : Addr} : PySem.W.kitOne K (.ref C) (.ref C) = some true := by
  unfold PySem.W.kitOne
  rw [if_pos (beq_self_eq_true _)]
theorem kit_tyref {T : String} {C : Addr} (hd : PySem.W.hasDictIn K C = true) (ht : PySem.W.typeIn K (.ref C) = some (.type "type")) (h : PySem.W.subIn K (.type T) (.ref C) = some b) : PySem.W.kitOne K (.type T) (.ref C) = some b := by
  unfold PySem.W.kitOne
  have e' : (Value.type T == Value.ref C) = false := rfl
  rw [e', if_neg Bool.false_ne_true]
  obtain ⟨cd, hc, _⟩ := PySem.W.any_some hd
  have e2 : ((PySem.W.clsIn K C).isSome && PySem.W.typeIn K (.ref C) == some (.type "type")) = true := by rw [hc, ht]; rfl
  show (if ((PySem.W.clsIn K C).isSome && PySem.W.typeIn K (.ref C) == some (.type "type")) = true then PySem.W.subIn K (.type T) (.ref C) else none) = some b
  rw [if_pos e2]
  exact h
end
/-! == by items -/
section
variable {K : PySem.W.Frag} {H : Hp} {Q : VK} {a b : Addr} {xs ys : List V} {c : Bool} {x y : V}
theorem q_eqXT (h1 : SqT K H a xs) (h2 : SqT K H b ys) (h3 : E1s K H xs ys c) (q : Q (.bl c) H) : rEqX K (.ref a) (.ref b) H Q := ⟨a, b, xs, ys, c, rfl, rfl, .inl ⟨h1, h2⟩, h3, q⟩
theorem q_eqXL (h1 : SqL K H a xs) (h2 : SqL K H b ys) (h3 : E1s K H xs ys c) (q : Q (.bl c) H) : rEqX K (.ref a) (.ref b) H Q := ⟨a, b, xs, ys, c, rfl, rfl, .inr ⟨h1, h2⟩, h3, q⟩
theorem q_neXT (h1 : SqT K H a xs) (h2 : SqT K H b ys) (h3 : E1s K H xs ys c) (q : Q (.bl (!c)) H) : rNeX K (.ref a) (.ref b) H Q := ⟨a, b, xs, ys, c, rfl, rfl, .inl ⟨h1, h2⟩, h3, q⟩
theorem q_neXL (h1 : SqL K H a xs) (h2 : SqL K H b ys) (h3 : E1s K H xs ys c) (q : Q (.bl (!c)) H) : rNeX K (.ref a) (.ref b) H Q := ⟨a, b, xs, ys, c, rfl, rfl, .inr ⟨h1, h2⟩, h3, q⟩
theorem e1_str {s : Str} : E1 K H (.str s) (.str s) true := by
  have z := E1.str (K := K) (H := H) s s
  rwa [beq_self_eq_true] at z
theorem e1_int {i : Int} : E1 K H (.int i) (.int i) true := by
  have z : PyData.eqv (.int i) (.int i) = true := by simp [PyData.eqv]
  have w : E1 K H (.int i) (.int i) (PyData.eqv (.int i) (.int i)) := .dat (.int i) (.int i) rfl rfl
  rw [z] at w
  exact w
theorem e1_bl {i : Bool} : E1 K H (.bl i) (.bl i) true := by
  have z : PyData.eqv (.bool i) (.bool i) = true := by simp [PyData.eqv]
  have w : E1 K H (.bl i) (.bl i) (PyData.eqv (.bool i) (.bool i)) := .dat (.bl i) (.bl i) rfl rfl
  rw [z] at w
  exact w
theorem e1_non : E1 K H .non .non true := by
  have z : PyData.eqv .none .none = true := by simp [PyData.eqv]
  have w : E1 K H .non .non (PyData.eqv .none .none) := .dat .non .non rfl rfl
  rw [z] at w
  exact w
theorem DpInts {ns : List Int} : DpAll K H (ns.map V.int) (ns.map PyData.int) := by
  induction ns with
  | nil => exact .nil
  | cons n ns ih => exact .cons (.int n) ih
theorem e1_self (hx : (∃ a, x = .ref a) ∨ (∃ s, x = .str s) ∨ (∃ i, x = .int i) ∨ (∃ b, x = .bl b) ∨ x = .non) : E1 K H x x true := by
  rcases hx with ⟨_, rfl⟩ | ⟨_, rfl⟩ | ⟨_, rfl⟩ | ⟨_, rfl⟩ | rfl
  · exact .same _
  · exact e1_str
  · exact e1_int
  · exact e1_bl
  · exact e1_non
theorem e1s_2 {x2 y2 : V} {b1 b2 : Bool} (h1 : E1 K H x y b1) (h2 : E1 K H x2 y2 b2) : E1s K H [x, x2] [y, y2] (b1 && b2) := by
  have z := E1s.cons h1 (E1s.cons h2 .nil)
  simpa using z
end
theorem eqv_ints {ms ns : List Int} : PyData.eqvAll (ms.map PyData.int) (ns.map PyData.int) = decide (ms = ns) := by
  induction ms generalizing ns with
  | nil => cases ns <;> simp [PyData.eqvAll]
  | cons m ms ih =>
    cases ns with
    | nil => simp [PyData.eqvAll]
    | cons n ns =>
      simp only [List.map_cons, PyData.eqvAll, ih, PyData.eqv, List.cons.injEq, Bool.decide_and]
      congr 1
theorem lay_ints {ns : List Int} : PyData.canLayAll0 (ns.map PyData.int) = true := by
  induction ns with
  | nil => rfl
  | cons n ns ih =>
    show (PyData.canLay0 (.int n) && PyData.canLayAll0 (ns.map PyData.int)) = true
    rw [ih]
    rfl
theorem depth_ints {ns : List Int} : PyData.depthAll (ns.map PyData.int) = 0 ∨ PyData.depthAll (ns.map PyData.int) ≤ 1 := by
  induction ns with
  | nil => exact .inl rfl
  | cons n ns ih =>
    refine .inr ?_
    show max (PyData.depth (.int n)) (PyData.depthAll (ns.map PyData.int)) ≤ 1
    have : PyData.depth (.int n) ≤ 1 := Nat.zero_le 1
    omega
theorem sh_ints {ns : List Int} : (PyData.canLayAll0 (ns.map PyData.int) && decide (PyData.depthAll (ns.map PyData.int) + 1 ≤ 64)) = true := by
  rw [lay_ints, Bool.true_and, decide_eq_true_eq]
  have := depth_ints (ns := ns)
  omega
theorem shT {ns : List Int} : SeqAt.shaped (.tuple (ns.map PyData.int)) = true := sh_ints
theorem shL {ns : List Int} : SeqAt.shaped (.list (ns.map PyData.int)) = true := sh_ints
section
variable {K : PySem.W.Frag} {H : Hp} {Q : VK} {a b : Addr} {ms ns : List Int}
theorem q_eqTI (h1 : SqT K H a (ms.map V.int)) (h2 : SqT K H b (ns.map V.int)) (q : Q (.bl (decide (ms = ns))) H) : rEqD K (.ref a) (.ref b) H Q := q_eqD (.tup h1 DpInts) (.tup h2 DpInts) shT shT (by rw [show PyData.eqv (.tuple (ms.map PyData.int)) (.tuple (ns.map PyData.int)) = decide (ms = ns) from eqv_ints]; exact q)
theorem q_neTI (h1 : SqT K H a (ms.map V.int)) (h2 : SqT K H b (ns.map V.int)) (q : Q (.bl (!decide (ms = ns))) H) : rNeD K (.ref a) (.ref b) H Q := q_neD (.tup h1 DpInts) (.tup h2 DpInts) shT shT (by rw [show PyData.eqv (.tuple (ms.map PyData.int)) (.tuple (ns.map PyData.int)) = decide (ms = ns) from eqv_ints]; exact q)
theorem q_eqLI (h1 : SqL K H a (ms.map V.int)) (h2 : SqL K H b (ns.map V.int)) (q : Q (.bl (decide (ms = ns))) H) : rEqD K (.ref a) (.ref b) H Q := q_eqD (.lst h1 DpInts) (.lst h2 DpInts) shL shL (by rw [show PyData.eqv (.list (ms.map PyData.int)) (.list (ns.map PyData.int)) = decide (ms = ns) from eqv_ints]; exact q)
theorem q_neLI (h1 : SqL K H a (ms.map V.int)) (h2 : SqL K H b (ns.map V.int)) (q : Q (.bl (!decide (ms = ns))) H) : rNeD K (.ref a) (.ref b) H Q := q_neD (.lst h1 DpInts) (.lst h2 DpInts) shL shL (by rw [show PyData.eqv (.list (ms.map PyData.int)) (.list (ns.map PyData.int)) = decide (ms = ns) from eqv_ints]; exact q)
end
/-! ### comprehensions over any walk, whose elements change nothing that stood: what holds of each element -/
theorem lc_any {J : It} {n : Nat} {G : Hp → Prop} {Y : Nat → Hp → V → Hp → Prop} (w : Walk J n G Y) {g : TG} {tt : TT} {te : TE} {vs : List Nat} {σ : L2.St} {H1 : Hp} {D : Addr} {Qd : Hp → Prop} (P : Nat → List V → Hp → Prop) (hn : n ≤ 100000) (hP : ∀ k ys H H', P k ys H → Same H H' → P k ys H') (hS : ∀ k ys H acc, P k ys H → P k ys (upd H D (.lst acc))) (h0 : P 0 [] H1)
    (hG : ∀ H', Same H1 H' → G H') (hD : H1 D = none)
    (he : ∀ k x ys H2 H' (R : Bool → Hp → Prop) (S : V → Hp → Prop), k < n → Same H1 H2 → P k ys H2 → H2 D = some (.lst ys) → Y k H2 x H' → (∀ b H3, Same H2 H3 → (b = false → P (k + 1) ys H3) → R b H3) → (∀ y H4, Same H2 H4 → P (k + 1) (ys ++ [y]) H4 → S y H4) → g x (wipe σ vs) H' fun σ2 H3 => wipe σ2 vs = wipe σ vs ∧ tt σ2 H3 fun b H4 => R b H4 ∧ (b = true → te σ2 H4 S))
    (hd : ∀ ys H', Same H1 H' → P n ys H' → H' D = some (.lst ys) → Qd H') (gm : ∀ x H' Q Q', (∀ σ H, Q σ H → Q' σ H) → g x (wipe σ vs) H' Q → g x (wipe σ vs) H' Q')
    (tm : ∀ σ H Q Q', (∀ b H, Q b H → Q' b H) → tt σ H Q → tt σ H Q') :
    ∃ W : Nat → Nat → Hp → Prop, (∃ m, W 0 m (upd H1 D (.lst []))) ∧ ∀ i m H, W i m H →
      (J.stop i H ∧ Qd H) ∨ (J.go i H ∧ ∃ Nx : Hp → Prop, (∀ H', Nx H' → ∃ m', m' < m ∧ W (i + 1) m' H') ∧ ∀ x H', J.yld i H x H' → g x (wipe σ vs) H' fun σ2 H2 => wipe σ2 vs = wipe σ vs ∧ tt σ2 H2 fun b H3 =>
        if b = true then te σ2 H3 fun y H4 => ∃ acc, H4 D = some (.lst acc) ∧ acc.length < sizeLine ∧ Nx (upd H4 D (.lst (acc ++ [y]))) else Nx H3) := by
  refine lc_it w (fun k H' => Same H1 H' ∧ ∃ ys, P k ys H' ∧ ys.length ≤ k ∧ H' D = some (.lst ys)) ⟨Same.new hD, [], hS _ _ _ _ h0, Nat.le_refl _, upd_same⟩ (fun i H' _ h => hG H' h.1) ?_ ?_
  · rintro k x H2 H' hk ⟨s2, ys, p2, l2, d2⟩ y
    refine gm _ _ _ _ (fun σ2 H3 q => ⟨q.1, tm _ _ _ _ (fun b H4 q4 => ?_) q.2⟩) (he k x ys H2 H' (fun b H3 => b = false → Same H1 H3 ∧ ∃ ys, P (k + 1) ys H3 ∧ ys.length ≤ k + 1 ∧ H3 D = some (.lst ys)) (fun y H4 => ∃ acc, H4 D = some (.lst acc) ∧ acc.length < sizeLine ∧ Same H1 (upd H4 D (.lst (acc ++ [y]))) ∧ ∃ ys, P (k + 1) ys (upd H4 D (.lst (acc ++ [y]))) ∧ ys.length ≤ k + 1 ∧ upd H4 D (.lst (acc ++ [y])) D = some (.lst ys)) hk s2 p2 d2 y (fun b H3 s3 p3 hb => ⟨s2.trans s3, ys, p3 hb, Nat.le_succ_of_le l2, s3 _ _ d2⟩) fun v H4 s4 p4 => ⟨ys, s4 _ _ d2, line_lt (by omega), (s2.trans s4).snew hD, ys ++ [v], hS _ _ _ _ p4, by simp; omega, upd_same⟩)
    cases b with
    | true => exact iteT (q4.2 rfl)
    | false => exact iteF (q4.1 rfl)
  · rintro H' ⟨s2, ys, p2, _, d2⟩
    exact hd ys H' s2 p2 d2
theorem tYes_m : ∀ (σ : L2.St) (H : Hp) (Q Q' : Bool → Hp → Prop), (∀ b H, Q b H → Q' b H) → tYes σ H Q → tYes σ H Q' := fun _ _ _ _ h q => h _ _ q
theorem gName_m {i : Nat} {σ : L2.St} : ∀ (x : V) (H' : Hp) (Q Q' : L2.St → Hp → Prop), (∀ σ H, Q σ H → Q' σ H) → gName i x σ H' Q → gName i x σ H' Q' := fun _ _ _ _ h q => h _ _ q
theorem gTup2_m {K : PySem.W.Frag} {i j : Nat} {σ : L2.St} : ∀ (x : V) (H' : Hp) (Q Q' : L2.St → Hp → Prop), (∀ σ H, Q σ H → Q' σ H) → gTup K 2 (gCons (gName i) (gCons (gName j) gNil)) x σ H' Q → gTup K 2 (gCons (gName i) (gCons (gName j) gNil)) x σ H' Q' := by
  rintro x H' Q Q' h ⟨a, xs, e, s, l, v, r, e1, v2, r2, e2, e3, q⟩
  exact ⟨a, xs, e, s, l, v, r, e1, v2, r2, e2, e3, h _ _ q⟩
/-- no test, one name: elements that are the items' values of f, told by P -/
theorem lc_each {J : It} {n : Nat} {G : Hp → Prop} {Y : Nat → Hp → V → Hp → Prop} (w : Walk J n G Y) {i : Nat} {te : TE} {σ : L2.St} {H1 : Hp} {D : Addr} {Qd : Hp → Prop} (P : Nat → V → Hp → Prop) (hn : n ≤ 100000) (hP : ∀ k y H H', P k y H → Same H H' → P k y H') (hS : ∀ k y H acc, P k y H → P k y (upd H D (.lst acc)))
    (hG : ∀ H', Same H1 H' → G H') (hD : H1 D = none)
    (he : ∀ k x H2 H' (S : V → Hp → Prop), k < n → Same H1 H2 → (∃ ys, H2 D = some (.lst ys)) → Y k H2 x H' → (∀ y H4, Same H2 H4 → P k y H4 → S y H4) → te ((wipe σ [i]).set i (some x)) H' S)
    (hd : ∀ ys H', Same H1 H' → ys.length = n → (∀ (k : Nat) y, ys[k]? = some y → P k y H') → H' D = some (.lst ys) → Qd H') :
    ∃ W : Nat → Nat → Hp → Prop, (∃ m, W 0 m (upd H1 D (.lst []))) ∧ ∀ k m H, W k m H →
      (J.stop k H ∧ Qd H) ∨ (J.go k H ∧ ∃ Nx : Hp → Prop, (∀ H', Nx H' → ∃ m', m' < m ∧ W (k + 1) m' H') ∧ ∀ x H', J.yld k H x H' → gName i x (wipe σ [i]) H' fun σ2 H2 => wipe σ2 [i] = wipe σ [i] ∧ tYes σ2 H2 fun b H3 =>
        if b = true then te σ2 H3 fun y H4 => ∃ acc, H4 D = some (.lst acc) ∧ acc.length < sizeLine ∧ Nx (upd H4 D (.lst (acc ++ [y]))) else Nx H3) := by
  refine lc_it w (fun k H' => Same H1 H' ∧ ∃ ys, (∀ (j : Nat) y, ys[j]? = some y → P j y H') ∧ ys.length = k ∧ H' D = some (.lst ys)) ⟨Same.new hD, [], fun j y z => (by simp at z), rfl, upd_same⟩ (fun i H' _ h => hG H' h.1) ?_ ?_
  · rintro k x H2 H' hk ⟨s2, ys, p2, rfl, d2⟩ y
    refine ⟨wipe_set, ?_⟩
    unfold tYes
    refine iteT (he ys.length x H2 H' _ hk s2 ⟨ys, d2⟩ y fun v H4 s4 p4 => ⟨ys, s4 _ _ d2, line_lt (by omega), (s2.trans s4).snew hD, ys ++ [v], ?_, by simp, upd_same⟩)
    intro j z ez
    rcases Nat.lt_or_ge j ys.length with hj | hj
    · rw [List.getElem?_append_left hj] at ez
      exact hS _ _ _ _ (hP _ _ _ _ (p2 j z ez) s4)
    · rw [List.getElem?_append_right hj] at ez
      rcases Nat.eq_zero_or_pos (j - ys.length) with hz | hz
      · rw [hz] at ez
        have ej : j = ys.length := by omega
        subst ej
        simp at ez
        subst ez
        exact hS _ _ _ _ p4
      · rw [List.getElem?_eq_none (by simp; omega)] at ez
        cases ez
  · rintro H' ⟨s2, ys, p2, l2, d2⟩
    exact hd ys H' s2 l2 p2 d2
/-- over a range, each element a function of the number -/
theorem lc_rangeF {lo : Int} {n i : Nat} {te : TE} {σ : L2.St} {H1 : Hp} {D : Addr} {Qd : Hp → Prop} (f : Nat → V) (hn : n ≤ 100000) (hD : H1 D = none)
    (he : ∀ k, k < n → ∀ H2 (R : VK), Same H1 H2 → (∀ H4, Same H2 H4 → R (f k) H4) → te ((wipe σ [i]).set i (some (.int (lo + k)))) H2 R)
    (hd : ∀ H', Same H1 H' → H' D = some (.lst ((List.range n).map f)) → Qd H') :
    ∃ W : Nat → Nat → Hp → Prop, (∃ m, W 0 m (upd H1 D (.lst []))) ∧ ∀ k m H, W k m H →
      ((Itr lo n).stop k H ∧ Qd H) ∨ ((Itr lo n).go k H ∧ ∃ Nx : Hp → Prop, (∀ H', Nx H' → ∃ m', m' < m ∧ W (k + 1) m' H') ∧ ∀ x H', (Itr lo n).yld k H x H' → gName i x (wipe σ [i]) H' fun σ2 H2 => wipe σ2 [i] = wipe σ [i] ∧ tYes σ2 H2 fun b H3 =>
        if b = true then te σ2 H3 fun y H4 => ∃ acc, H4 D = some (.lst acc) ∧ acc.length < sizeLine ∧ Nx (upd H4 D (.lst (acc ++ [y]))) else Nx H3) := by
  refine lc_grow walk_range ((List.range n).map f) (by simp) hn (fun _ _ => trivial) hD ?_ hd (fun _ _ _ _ q h => q _ _ h)
  rintro k x H2 H' R hk s2 ⟨rfl, rfl⟩ hR
  refine ⟨wipe_set, he k hk H' R s2 fun H4 s4 => hR _ _ ?_ s4⟩
  rw [List.getElem?_map, List.getElem?_range hk]
  rfl
theorem q_zipA {K : PySem.W.Frag} {ta : TA} {σ : L2.St} {H : Hp} {R : It → Hp → Prop} (h : ta σ H fun vs H1 => ∃ a b xs ys, vs = [.ref a, .ref b] ∧ ((SqL K H1 a xs ∧ SqL K H1 b ys ∧ R (Itz K a b) H1) ∨ (SqT K H1 a xs ∧ SqT K H1 b ys ∧ R (RZ.ItzT K a b) H1))) : RZ.iZipA K ta σ H R := h
theorem q_zipT {K : PySem.W.Frag} {H : Hp} {a b : Addr} {xs ys : List V} {R R2 : Addr → Addr → Prop} (h1 : SqT K H a xs) (h2 : SqT K H b ys) (h : R2 a b) : ∃ a' b' xs ys, [V.ref a, V.ref b] = [.ref a', .ref b'] ∧ ((SqL K H a' xs ∧ SqL K H b' ys ∧ R a' b') ∨ (SqT K H a' xs ∧ SqT K H b' ys ∧ R2 a' b')) := ⟨a, b, xs, ys, rfl, .inr ⟨h1, h2, h⟩⟩
theorem lc_rangeB {lo : Int} {n i : Nat} {te : TE} {σ : L2.St} {H1 : Hp} {D : Addr} {Qd : Hp → Prop} (f : Nat → Bool) (hn : n ≤ 100000) (hD : H1 D = none)
    (he : ∀ k, k < n → ∀ H2 (R : VK), Same H1 H2 → (∀ H4, Same H2 H4 → R (.bl (f k)) H4) → te ((wipe σ [i]).set i (some (.int (lo + k)))) H2 R)
    (hd : ∀ H', Same H1 H' → H' D = some (.lst (((List.range n).map f).map V.bl)) → Qd H') :
    ∃ W : Nat → Nat → Hp → Prop, (∃ m, W 0 m (upd H1 D (.lst []))) ∧ ∀ k m H, W k m H →
      ((Itr lo n).stop k H ∧ Qd H) ∨ ((Itr lo n).go k H ∧ ∃ Nx : Hp → Prop, (∀ H', Nx H' → ∃ m', m' < m ∧ W (k + 1) m' H') ∧ ∀ x H', (Itr lo n).yld k H x H' → gName i x (wipe σ [i]) H' fun σ2 H2 => wipe σ2 [i] = wipe σ [i] ∧ tYes σ2 H2 fun b H3 =>
        if b = true then te σ2 H3 fun y H4 => ∃ acc, H4 D = some (.lst acc) ∧ acc.length < sizeLine ∧ Nx (upd H4 D (.lst (acc ++ [y]))) else Nx H3) := lc_rangeF (fun k => .bl (f k)) hn hD he fun H' s e => hd H' s (by rw [e, List.map_map]; rfl)
theorem lc_rangeI {lo : Int} {n i : Nat} {te : TE} {σ : L2.St} {H1 : Hp} {D : Addr} {Qd : Hp → Prop} (f : Nat → Int) (hn : n ≤ 100000) (hD : H1 D = none)
    (he : ∀ k, k < n → ∀ H2 (R : VK), Same H1 H2 → (∀ H4, Same H2 H4 → R (.int (f k)) H4) → te ((wipe σ [i]).set i (some (.int (lo + k)))) H2 R)
    (hd : ∀ H', Same H1 H' → H' D = some (.lst (((List.range n).map f).map V.int)) → Qd H') :
    ∃ W : Nat → Nat → Hp → Prop, (∃ m, W 0 m (upd H1 D (.lst []))) ∧ ∀ k m H, W k m H →
      ((Itr lo n).stop k H ∧ Qd H) ∨ ((Itr lo n).go k H ∧ ∃ Nx : Hp → Prop, (∀ H', Nx H' → ∃ m', m' < m ∧ W (k + 1) m' H') ∧ ∀ x H', (Itr lo n).yld k H x H' → gName i x (wipe σ [i]) H' fun σ2 H2 => wipe σ2 [i] = wipe σ [i] ∧ tYes σ2 H2 fun b H3 =>
        if b = true then te σ2 H3 fun y H4 => ∃ acc, H4 D = some (.lst acc) ∧ acc.length < sizeLine ∧ Nx (upd H4 D (.lst (acc ++ [y]))) else Nx H3) := lc_rangeF (fun k => .int (f k)) hn hD he fun H' s e => hd H' s (by rw [e, List.map_map]; rfl)
theorem atI_map {ns : List Int} {i : Nat} (h : i < ns.length) : atI (ns.map V.int) (0 + (i : Int)) = some (V.int (ns.getD i 0)) := by
  rw [Int.zero_add]
  refine atI_nat ?_
  rw [List.getElem?_map, List.getElem?_eq_getElem h]
  simp [List.getD, h]
theorem q_intB {k : Bool} {P : Int → Prop} {P' : Bool → Prop} (h : P' k) : (∃ i, [V.bl k] = [.int i] ∧ P i) ∨ ∃ k', [V.bl k] = [.bl k'] ∧ P' k' := .inr ⟨k, rfl, h⟩
theorem q_intI {i : Int} {P : Int → Prop} {P' : Bool → Prop} (h : P i) : (∃ j, [V.int i] = [.int j] ∧ P j) ∨ ∃ k', [V.int i] = [.bl k'] ∧ P' k' := .inl ⟨i, rfl, h⟩
theorem range_zip {g : Int → Int → Int} {ms ns : List Int} (hl : ns.length = ms.length) : ((List.range ms.length).map fun i => g (ms.getD i 0) (ns.getD i 0)) = List.zipWith g ms ns := by
  induction ms generalizing ns with
  | nil => rfl
  | cons m ms ih =>
    cases ns with
    | nil => simp at hl
    | cons n ns =>
      rw [List.length_cons, List.range_succ_eq_map, List.map_cons, List.map_map, List.zipWith_cons_cons, ← ih (ns := ns) (by simpa using hl)]
      rfl
theorem at0z {α : Type} {a : α} {xs : List α} : atI (a :: xs) (0 + ((0 : Nat) : Int)) = some a := atI_nat (j := 0) rfl
theorem at1z {α : Type} {a b : α} {xs : List α} : atI (a :: b :: xs) (0 + ((1 : Nat) : Int)) = some b := atI_nat (j := 1) rfl
theorem at2z {α : Type} {a b c : α} {xs : List α} : atI (a :: b :: c :: xs) (0 + ((2 : Nat) : Int)) = some c := atI_nat (j := 2) rfl
/-- over a list or a tuple -/
def iSeq (K : PySem.W.Frag) (tl : TE) : TI := fun σ H R => iList K tl σ H R ∨ iTup K tl σ H R
theorem kpi_seq {X : Cx} {K : PySem.W.Frag} {tg e : Expr} {tl : TE} (hK : X.K = K) (he : PE X e tl) : PI X tg e (iSeq K tl) := by
  subst hK
  refine ⟨fun pins s σ H R I h => ?_⟩
  rcases h with h | h
  · exact (pi_list he).run pins s σ H R I h
  · exact (pi_tup he).run pins s σ H R I h
theorem q_seqL {K : PySem.W.Frag} {tl : TE} {σ : L2.St} {H : Hp} {R : It → Hp → Prop} (h : tl σ H fun x H1 => ∃ a, x = .ref a ∧ (∃ xs, SqL K H1 a xs) ∧ R (Itl K a) H1) : iSeq K tl σ H R := .inl h
theorem q_seqT {K : PySem.W.Frag} {tl : TE} {σ : L2.St} {H : Hp} {R : It → Hp → Prop} (h : tl σ H fun x H1 => ∃ a, x = .ref a ∧ (∃ xs, SqT K H1 a xs) ∧ R (Itt K a) H1) : iSeq K tl σ H R := .inr h
theorem q_iTup {K : PySem.W.Frag} {tl : TE} {σ : L2.St} {H : Hp} {R : It → Hp → Prop} (h : tl σ H fun x H1 => ∃ a, x = .ref a ∧ (∃ xs, SqT K H1 a xs) ∧ R (Itt K a) H1) : iTup K tl σ H R := h
theorem q_iTupb {K : PySem.W.Frag} {a : Addr} {H : Hp} {xs : List V} {R : Addr → Prop} (h1 : SqT K H a xs) (h : R a) : ∃ b, V.ref a = .ref b ∧ (∃ xs, SqT K H b xs) ∧ R b := ⟨a, rfl, ⟨xs, h1⟩, h⟩
theorem kp_revL {X : Cx} {K : PySem.W.Frag} {e : Expr} {te : TE} {k : Nat} {p1 p2 p3 pos : Pos} (hK : X.K = K) (he : PE X e te) : PE X (.Subscript e (.Slice none none (some (.UnaryOp .USub (.Constant (.int 1) k p1) p2)) p3) pos) (tRevL K te) := by
  subst hK
  exact pe_revL he
theorem q_revL {K : PySem.W.Frag} {te : TE} {σ : L2.St} {H : Hp} {Q : VK} (h : te σ H fun x H1 => ∃ a xs, x = .ref a ∧ SqL K H1 a xs ∧ ∀ p, H1 p = none → Q (.ref p) (upd H1 p (.lst xs.reverse))) : tRevL K te σ H Q := h
theorem q_revLb {K : PySem.W.Frag} {H : Hp} {a : Addr} {xs : List V} {P : Addr → List V → Prop} (h1 : SqL K H a xs) (h : P a xs) : ∃ b xs, V.ref a = .ref b ∧ SqL K H b xs ∧ P b xs := ⟨a, xs, rfl, h1, h⟩
theorem q_yes {σ : L2.St} {H : Hp} {Q : Bool → Hp → Prop} (h : Q true H) : tYes σ H Q := h
theorem walk_zipT {K : PySem.W.Frag} {a b : Addr} {xs ys : List V} : Walk (RZ.ItzT K a b) (min xs.length ys.length) (fun H => SqT K H a xs ∧ SqT K H b ys) (YPair (fun i => xs[i]?) (fun i => ys[i]?)) := by
  constructor
  · rintro i H hi ⟨q1, q2⟩
    have h1 : i < xs.length := by omega
    have h2 : i < ys.length := by omega
    exact ⟨xs, ys, xs[i], ys[i], q1, q2, by simp [h1], by simp [h2]⟩
  · rintro H ⟨q1, q2⟩
    exact ⟨xs, ys, q1, q2, by omega⟩
  · rintro i H x H' hi ⟨q1, q2⟩ ⟨T, u, v, h1, h2, h3, h4, h5⟩
    exact ⟨T, u, v, h1, h2, h3, h4 xs q1, h5 ys q2⟩
/-- over two tuples side by side, each element a function of both items -/
theorem lc_zipF {K : PySem.W.Frag} {a b : Addr} {xs ys : List V} {i j : Nat} {g : TG} {te : TE} {σ : L2.St} {H1 : Hp} {D : Addr} {Qd : Hp → Prop} (f : V → V → V) (ha : SqT K H1 a xs) (hb : SqT K H1 b ys) (hl : xs.length ≤ 100000) (hD : H1 D = none)
    (he : ∀ x ∈ xs, ∀ y ∈ ys, ∀ p H2 (R : VK), Same H1 H2 → H2 p = some (.tup [x, y]) → (∀ H4, Same H2 H4 → R (f x y) H4) → g (.ref p) (wipe σ [i, j]) H2 fun σ2 H3 => wipe σ2 [i, j] = wipe σ [i, j] ∧ te σ2 H3 R)
    (hd : ∀ H', Same H1 H' → H' D = some (.lst ((xs.zip ys).map fun z => f z.1 z.2)) → Qd H') (gm : ∀ x H' Q Q', (∀ σ H, Q σ H → Q' σ H) → g x (wipe σ [i, j]) H' Q → g x (wipe σ [i, j]) H' Q') :
    ∃ W : Nat → Nat → Hp → Prop, (∃ m, W 0 m (upd H1 D (.lst []))) ∧ ∀ k m H, W k m H →
      ((RZ.ItzT K a b).stop k H ∧ Qd H) ∨ ((RZ.ItzT K a b).go k H ∧ ∃ Nx : Hp → Prop, (∀ H', Nx H' → ∃ m', m' < m ∧ W (k + 1) m' H') ∧ ∀ x H', (RZ.ItzT K a b).yld k H x H' → g x (wipe σ [i, j]) H' fun σ2 H2 => wipe σ2 [i, j] = wipe σ [i, j] ∧ tYes σ2 H2 fun b H3 =>
        if b = true then te σ2 H3 fun y H4 => ∃ acc, H4 D = some (.lst acc) ∧ acc.length < sizeLine ∧ Nx (upd H4 D (.lst (acc ++ [y]))) else Nx H3) := by
  refine lc_grow walk_zipT ((xs.zip ys).map fun z => f z.1 z.2) (by simp) (by omega) (fun _ s => ⟨s.seqT ha, s.seqT hb⟩) hD ?_ hd gm
  rintro k x H2 H' R hk s2 hy hR
  obtain ⟨p, u, v, rfl, hp, rfl, e1, e2⟩ := hy
  refine he u (List.mem_of_getElem? e1) v (List.mem_of_getElem? e2) p _ R (s2.trans (Same.new hp)) upd_same fun H4 s4 => hR _ _ ?_ ((Same.new hp).trans s4)
  rw [List.getElem?_map, show (xs.zip ys)[k]? = some (u, v) from List.getElem?_zip_eq_some.mpr ⟨e1, e2⟩]
  rfl
/-- the frame by its name, where the place is within a handler -/
theorem kbm {X : Cx} {K : PySem.W.Frag} {e : Expr} {T : String} {r : V → List V → Hp → VK → Prop} {to : TE} {t : TA} (hK : X.K = K) (h : PE X e (tBM X.K T r to t)) : PE X e (tBM K T r to t) := hK ▸ h

local macro_rules | `(tactic| walk_at "at") => `(tactic| first | assumption | with_reducible exact at0 | with_reducible exact at1 | with_reducible exact at2 | with_reducible exact at3 | with_reducible exact at4 | fail)
/-! ### steps: side conditions (sd), what stands at an address (lk, sq), a reading's next steps (rd) -/
local macro_rules | `(tactic| walk_at "ne") => `(tactic| first | assumption | (apply Ne.symm; assumption) | (refine' ne_of_none ?h1 ?h2; (case h1 => assumption); (case h2 => walk_at "fr")) | (refine' ne_of_none upd_same ?h2; (case h2 => walk_at "fr")) | (apply Ne.symm; refine' ne_of_none ?h1 ?h2; (case h1 => assumption); (case h2 => walk_at "fr")) | (apply Ne.symm; refine' ne_of_none upd_same ?h2; (case h2 => walk_at "fr")) | (refine' ne_of_none ?h1 ?h2; (case h2 => assumption); (case h1 => walk_at "lk")) | (apply Ne.symm; refine' ne_of_none ?h1 ?h2; (case h2 => assumption); (case h1 => walk_at "lk")) | fail)
local macro_rules | `(tactic| walk_at "lk") => `(tactic| first | assumption | exact upd_same | (refine' Eq.trans (upd_ne ?h1) ?h2; (case h1 => walk_at "ne"); (case h2 => walk_at "lk")) | (refine' same_at ?h1 ?h2; (case h1 => assumption); (case h2 => walk_at "lk")) | (refine' fr1_at ?h1 ?h2 ?h3; (case h1 => assumption); (case h2 => walk_at "ne"); (case h3 => walk_at "lk")) | fail)
local macro_rules | `(tactic| walk_at "sq") => `(tactic| first | assumption | ((with_reducible refine' SqL.of ?h1); (case h1 => walk_at "lk")) | ((with_reducible refine' SqT.of ?h1); (case h1 => walk_at "lk")) | ((with_reducible refine' Same.seq ?h1 ?h2); (case h1 => assumption); (case h2 => walk_at "sq")) | ((with_reducible refine' Same.seqT ?h1 ?h2); (case h1 => assumption); (case h2 => walk_at "sq")) | fail)
local macro_rules | `(tactic| walk_at "sd") => `(tactic| first | omega | (dsimp only; omega) | (simp only [PySem.Str.length_append]; omega) | with_reducible assumption | assumption | (simp; done) | (simp; omega) | decide | rfl | fail)
local macro_rules | `(tactic| walk_at "sdI") => `(tactic| first | (show (0:Int) < _; walk_at "sd") | exact wide_div (b := 8000) (by walk_at "sd") (by walk_at "sd") (by decide) (by decide) | exact Or.inr ⟨by walk_at "sd", by walk_at "sd"⟩ | exact Or.inl ⟨by walk_at "sd", by walk_at "sd"⟩ | exact ⟨by walk_at "sd", by walk_at "sd", by walk_at "sd"⟩ | walk_at "sd" | fail)
local macro_rules | `(tactic| walk_at "rd0") => `(tactic| first
  | with_reducible refine q_seq ?_ | with_reducible refine q_asg ?_ | with_reducible refine q_op ?_ | ((with_reducible refine' q_var ?h1 ?_); (case h1 => exact rfl)) | with_reducible refine q_c ?_
  | with_reducible refine q_gname ?_ | with_reducible refine q_test ?_ | with_reducible refine q_k ?_ | with_reducible refine q_cons ?_ | with_reducible refine q_nil ?_ | with_reducible refine q_cb ?_ | with_reducible refine q_call0 ?_ | ((with_reducible refine q_call ?_))
  | with_reducible refine q_if ?_ | with_reducible refine q_ret ?_ | with_reducible refine q_retN ?_ | with_reducible refine q_drop ?_ | with_reducible refine q_next ?_ | with_reducible refine q_brk ?_ | with_reducible refine q_cont ?_
  | with_reducible refine q_ifN ?_ | with_reducible refine q_ifA ?_ | with_reducible refine q_ifO ?_ | with_reducible refine q_ift ?_ | with_reducible refine q_iff ?_
  | with_reducible refine q_un ?_ | with_reducible refine q_B ?_ | with_reducible refine q_and ?_ | with_reducible refine q_or ?_ | with_reducible refine q_not ?_ | with_reducible refine q_andV ?_ | with_reducible refine q_orV ?_ | with_reducible refine q_notV ?_ | with_reducible refine q_ifE ?_ | with_reducible refine q_chain ?_
  | with_reducible refine q_gsub ?_ | with_reducible refine q_gnil ?_ | with_reducible refine q_gcons ?_ | with_reducible refine q_fld ?_ | with_reducible refine q_sl ?_ | with_reducible refine q_nopart ?_ | with_reducible refine q_part ?_ | with_reducible refine q_i ?_ | with_reducible refine q_bm ?_
  | with_reducible refine q_lst ?_ | with_reducible refine q_tup ?_ | ((with_reducible refine q_new ?h1 ?_); (case h1 => walk_at "sd"))
  | with_reducible refine q_I0 ?_ | ((with_reducible refine q_I ?h1 ?_); (case h1 => walk_at "sdI")) | with_reducible refine q_U ?_
  | with_reducible refine q_eqI ?_ | with_reducible refine q_eqS ?_ | with_reducible refine q_eqB ?_ | ((with_reducible refine q_eq0 ?h1 ?h2 ?_); (case h1 => rfl); (case h2 => (intro z; cases z)))
  | with_reducible refine q_neI ?_ | with_reducible refine q_neS ?_ | with_reducible refine q_neB ?_ | ((with_reducible refine q_ne0 ?h1 ?h2 ?_); (case h1 => rfl); (case h2 => (intro z; cases z)))
  | with_reducible refine q_isT ?_ | with_reducible refine q_isF ?_ | with_reducible refine q_notT ?_ | with_reducible refine q_notF ?_ | with_reducible refine q_isB ?_ | with_reducible refine q_notB ?_ | with_reducible refine q_isNonT ?_ | ((with_reducible refine q_isNonF ?h1 ?_); (case h1 => (intro z; cases z))) | with_reducible refine q_notNonF ?_ | ((with_reducible refine q_notNonT ?h1 ?_); (case h1 => (intro z; cases z)))
  | ((with_reducible refine' q_ixL ?h1 ?h2 ?_); (case h1 => walk_at "sq"); (case h2 => walk_at "at"))
  | ((with_reducible refine' q_ixT ?h1 ?h2 ?_); (case h1 => walk_at "sq"); (case h2 => walk_at "at"))
  | ((with_reducible refine' q_ixS ?h1 ?h2 ?_); (case h1 => walk_at "sd"); (case h2 => walk_at "at"))
  | ((with_reducible refine' q_setL ?h1 ?h2 ?_); (case h1 => walk_at "lk"); (case h2 => rfl))
  | ((with_reducible refine' q_append ?h1 ?h2 ?_); (case h1 => walk_at "lk"); (case h2 => (refine line_lt ?_; walk_at "sd")))
  | ((with_reducible refine' q_tyL ?h1 ?_); (case h1 => walk_at "lk"))
  | ((with_reducible refine' q_slL ?h1 ?_); (case h1 => walk_at "sq"))
  | ((with_reducible refine' q_cat ?h1 ?h2 ?h3 ?_); (case h1 => walk_at "lk"); (case h2 => walk_at "lk"); (case h3 => (refine line_of ?_; walk_at "sd")))
  | ((with_reducible refine q_addStr ?h1 ?_); (case h1 => (refine line_of ?_; walk_at "sd"))) | with_reducible refine q_ltStr ?_ | ((with_reducible refine' q_leStr1 ?h1 ?h2 ?_); (case h1 => (first | assumption | exact rfl)); (case h2 => (first | assumption | exact rfl))) | with_reducible refine q_leStr ?_ | ((with_reducible refine' q_all ?h1 ?_); (case h1 => walk_at "sq")) | ((with_reducible refine' q_any ?h1 ?_); (case h1 => walk_at "sq")) | with_reducible refine q_inSign ?_
  | ((with_reducible refine q_lenS ?h1 ?_); (case h1 => (refine line_of ?_; walk_at "sd"))) | ((with_reducible refine' q_lenL ?h1 ?_); (case h1 => walk_at "sq")) | ((with_reducible refine' q_lenT ?h1 ?_); (case h1 => walk_at "sq"))
  | ((with_reducible refine q_slS ?h1 ?_); (case h1 => (refine line_of ?_; walk_at "sd"))) | with_reducible refine q_callN ?_ | with_reducible refine q_2 rfl rfl ?_ | with_reducible refine q_make0 ?_ | with_reducible refine q_meth0 ?_
  | with_reducible refine q_for ?_ | with_reducible refine q_lc ?_ | with_reducible refine q_rng1 ?_ | ((with_reducible refine q_rng1b ?h1 ?h2 ?_); (case h1 => walk_at "sd"); (case h2 => walk_at "sd")) | with_reducible refine q_iList ?_ | ((with_reducible refine' q_iListb ?h1 ?_); (case h1 => walk_at "sq")) | with_reducible refine q_iStr ?_ | with_reducible refine q_iStrb ?_
  | ((with_reducible refine' q_listL ?h1 ?_); (case h1 => walk_at "sq")) | ((with_reducible refine' q_listT ?h1 ?_); (case h1 => walk_at "sq")) | ((with_reducible refine' q_tupleL ?h1 ?_); (case h1 => walk_at "sq")) | ((with_reducible refine' q_tupleT ?h1 ?_); (case h1 => walk_at "sq")) | ((with_reducible refine' q_sum ?h1 ?_); (case h1 => walk_at "sq"))
  | ((with_reducible refine' q_eqDt ?h1 ?h2 ?h3 ?h4 ?h5 ?_); (case h1 => walk_at "dp"); (case h2 => walk_at "dp"); (case h3 => exact rfl); (case h4 => exact rfl); (case h5 => walk_at "eqv"))
  | with_reducible refine q_dnewK ?_ | with_reducible refine q_disp ?_ | with_reducible refine q_pairs0 ?_ | with_reducible refine q_pairs ?_
  | ((with_reducible refine' q_isiT ?h1 ?h2 ?h3 ?h4 ?_); (case h1 => walk_at "lk"); (case h2 => walk_at "prd"); (case h3 => walk_at "tyx"); (case h4 => walk_at "kia"))
  | with_reducible refine q_sfld ?_ | ((with_reducible refine' q_sfldb ?h1 ?h2 ?h3 ?h4 ?_); (case h1 => walk_at "lk"); (case h2 => walk_at "cls"); (case h3 => walk_at "noa"); (case h4 => walk_at "sd")) | ((with_reducible refine' q_fldb ?h1 ?h2 ?h3 ?h4 ?_); (case h1 => walk_at "lk"); (case h2 => walk_at "cls"); (case h3 => walk_at "noa"); (case h4 => walk_at "lu"))
  | with_reducible refine q_nn ?_
  | with_reducible refine q_max2 ?_ | with_reducible refine q_min2 ?_
  | ((with_reducible refine' q_isi ?h1 ?h2 ?h3 ?_); (case h1 => (first | exact ClsV.ty _ | exact ClsV.own _)); (case h2 => walk_at "tyx"); (case h3 => walk_at "kit")) | fail)
local macro_rules | `(tactic| walk_at "tyx") => `(tactic| first | assumption | exact .base (.int _) | exact .base (.str _) | exact .base (.bl _) | exact .base .non | exact .base (.lst (by assumption)) | exact .base (.tup (by assumption)) | exact .base (.dK (by assumption)) | walk_at "tya" | walk_at "tyo" | ((with_reducible refine' .base (.lst ?h1)); (case h1 => walk_at "lk")) | ((with_reducible refine' .base (.tup ?h1)); (case h1 => walk_at "lk")) | ((with_reducible refine' .base (.dK ?h1)); (case h1 => walk_at "lk")) | (refine' TyX.mono ?h1 ?h2; (case h1 => assumption); (case h2 => walk_at "sm")) | fail)
local macro_rules | `(tactic| walk_at "kit") => `(tactic| first | assumption | walk_at "kio" | with_reducible exact kt_NoneType_int | with_reducible exact kt_NoneType_str | with_reducible exact kt_NoneType_bool | with_reducible exact kt_NoneType_list | with_reducible exact kt_NoneType_tuple | with_reducible exact kt_NoneType_dict | with_reducible exact kt_bool_int | with_reducible exact kt_bool_str | with_reducible exact kt_bool_bool | with_reducible exact kt_bool_list | with_reducible exact kt_bool_tuple | with_reducible exact kt_bool_dict | with_reducible exact kt_int_int | with_reducible exact kt_int_str | with_reducible exact kt_int_bool | with_reducible exact kt_int_list | with_reducible exact kt_int_tuple | with_reducible exact kt_int_dict | with_reducible exact kt_str_int | with_reducible exact kt_str_str | with_reducible exact kt_str_bool | with_reducible exact kt_str_list | with_reducible exact kt_str_tuple | with_reducible exact kt_str_dict | with_reducible exact kt_list_int | with_reducible exact kt_list_str | with_reducible exact kt_list_bool | with_reducible exact kt_list_list | with_reducible exact kt_list_tuple | with_reducible exact kt_list_dict | with_reducible exact kt_tuple_int | with_reducible exact kt_tuple_str | with_reducible exact kt_tuple_bool | with_reducible exact kt_tuple_list | with_reducible exact kt_tuple_tuple | with_reducible exact kt_tuple_dict | with_reducible exact kt_dict_int | with_reducible exact kt_dict_str | with_reducible exact kt_dict_bool | with_reducible exact kt_dict_list | with_reducible exact kt_dict_tuple | with_reducible exact kt_dict_dict | fail)
local macro_rules | `(tactic| walk_at "rd") => `(tactic| repeat (first | walk_at "rd0" | walk_at "rc" | ((with_reducible refine q_ifd ?h1 ?_); (case h1 => walk_at "cd")) | ((with_reducible refine q_ifn ?h1 ?_); (case h1 => walk_at "cd")) | intro _))
local macro_rules | `(tactic| walk_at "sp") => `(tactic| first | with_reducible refine q_ifx (fun _ => ?_) (fun _ => ?_) | with_reducible refine q_ifs (fun _ => ?_) (fun _ => ?_) | fail)
local macro_rules | `(tactic| walk_at "rdx") => `(tactic| (walk_at "rd"; (try (walk_at "sp" <;> walk_at "rdx"))))
local macro_rules | `(tactic| walk_at "sv") => `(tactic| first | rfl | (simp_all; done) | (simp_all; omega) | (simp_all <;> intros <;> omega) | (simp; omega) | fail)
local macro_rules | `(tactic| walk_at "dp") => `(tactic| first | assumption | exact Dp.int _ | exact Dp.bl _ | exact Dp.str _ | exact Dp.non | ((with_reducible refine' Dp.lst ?h1 ?h2); (case h1 => walk_at "sq"); (case h2 => walk_at "dps")) | ((with_reducible refine' Dp.tup ?h1 ?h2); (case h1 => walk_at "sq"); (case h2 => walk_at "dps")) | fail)
local macro_rules | `(tactic| walk_at "dps") => `(tactic| first | assumption | exact DpAll.nil | ((with_reducible refine' DpAll.cons ?h1 ?h2); (case h1 => walk_at "dp"); (case h2 => walk_at "dps")) | fail)
local macro_rules | `(tactic| walk_at "rf") => `(tactic| first | assumption | exact cs_0 | exact cs_9 | exact cs_a | exact cs_z | exact rfl | fail)
local macro_rules | `(tactic| walk_at "fr") => `(tactic| first | assumption | exact upd_free (by assumption) | exact upd_free (upd_free (by assumption)) | exact upd_free (upd_free (upd_free (by assumption))) | exact upd_free (upd_free (upd_free (upd_free (by assumption)))) | exact upd_free (upd_free (upd_free (upd_free (upd_free (by assumption))))) | exact upd_free (upd_free (upd_free (upd_free (upd_free (upd_free (by assumption)))))) | exact upd_free (upd_free (upd_free (upd_free (upd_free (upd_free (upd_free (by assumption))))))) | exact upd_free (upd_free (upd_free (upd_free (upd_free (upd_free (upd_free (upd_free (by assumption)))))))) | exact upd_free (upd_free (upd_free (upd_free (upd_free (upd_free (upd_free (upd_free (upd_free (by assumption))))))))) | exact upd_free (upd_free (upd_free (upd_free (upd_free (upd_free (upd_free (upd_free (upd_free (upd_free (by assumption)))))))))) | exact upd_free (upd_free (upd_free (upd_free (upd_free (upd_free (upd_free (upd_free (upd_free (upd_free (upd_free (by assumption))))))))))) | exact upd_free (upd_free (upd_free (upd_free (upd_free (upd_free (upd_free (upd_free (upd_free (upd_free (upd_free (upd_free (by assumption)))))))))))) | exact upd_free (upd_free (upd_free (upd_free (upd_free (upd_free (upd_free (upd_free (upd_free (upd_free (upd_free (upd_free (upd_free (by assumption))))))))))))) | exact upd_free (upd_free (upd_free (upd_free (upd_free (upd_free (upd_free (upd_free (upd_free (upd_free (upd_free (upd_free (upd_free (upd_free (by assumption)))))))))))))) | exact upd_free (upd_free (upd_free (upd_free (upd_free (upd_free (upd_free (upd_free (upd_free (upd_free (upd_free (upd_free (upd_free (upd_free (upd_free (by assumption))))))))))))))) | (refine' Same.free ?h1 ?h2; (case h1 => assumption); (case h2 => walk_at "fr")) | fail)
local macro_rules | `(tactic| walk_at "sm") => `(tactic| first | assumption | exact Same.refl _ | (refine Same.snew ?h1 ?h2; (case h2 => walk_at "fr"); (case h1 => walk_at "sm")) | (refine' Same.fr1 ?h1 ?h2 ?h3; (case h2 => assumption); (case h3 => walk_at "fr"); (case h1 => walk_at "sm")) | (refine' Same.trans ?h1 ?h2; (case h2 => assumption); (case h1 => walk_at "sm")) | fail)
local macro_rules | `(tactic| walk_at "eqv") => `(tactic| first | (simp [PyData.eqv, PyData.eqvAll, *]; done) | (simp_all [PyData.eqv, PyData.eqvAll]; done) | fail)
local macro_rules | `(tactic| walk_at "prd") => `(tactic| first | exact Paired.nil | (refine' Paired.cons ?h1 ?h2; (case h1 => (first | exact ClsV.ty _ | exact ClsV.own _)); (case h2 => walk_at "prd")) | fail)
local macro_rules | `(tactic| walk_at "kia") => `(tactic| first | assumption | exact ka_nil | exact ka_t (by walk_at "kit") | (refine ka_f (by walk_at "kit") ?_; walk_at "kia") | fail)
local macro_rules | `(tactic| walk_at "lu") => `(tactic| first | assumption | with_reducible exact lu_hd | (refine Eq.trans (lu_tl (by decide +kernel)) ?_; walk_at "lu") | fail)
local macro_rules | `(tactic| walk_at "nn") => `(tactic| first | assumption | exact NN.nil | (refine NN.cons (by walk_at "sd") ?_; walk_at "nn") | fail)
local macro_rules | `(tactic| walk_at "rdn") => `(tactic| repeat (first | walk_at "rd0" | walk_at "rc" | ((with_reducible refine q_ifd ?h1 ?_); (case h1 => walk_at "cd")) | ((with_reducible refine q_ifn ?h1 ?_); (case h1 => walk_at "cd"))))

local macro_rules | `(tactic| walk_at "as") => `(tactic| first | assumption | fail)
local macro_rules | `(tactic| walk_at "lun") => `(tactic| first | assumption | exact lu_nil | (refine lu_tlN (by decide +kernel) ?_; walk_at "lun") | fail)
local macro_rules | `(tactic| walk_at "xm") => `(tactic| first
  | walk_at "xm1"
  | (refine' Eq.trans (xa_cons ?h1 (xa_cons ?h2 xa_nil)) ?h3; (case h1 => walk_at "xm1"); (case h2 => walk_at "xm1"); (case h3 => exact rfl))
  | (refine' Eq.trans (xa_cons ?h1 (xa_cons ?h2 (xa_cons ?h4 xa_nil))) ?h3; (case h1 => walk_at "xm1"); (case h2 => walk_at "xm1"); (case h4 => walk_at "xm1"); (case h3 => exact rfl))
  | (refine' Eq.trans (xa_cons ?h1 (xa_cons ?h2 (xa_cons ?h4 (xa_cons ?h5 xa_nil)))) ?h3; (case h1 => walk_at "xm1"); (case h2 => walk_at "xm1"); (case h4 => walk_at "xm1"); (case h5 => walk_at "xm1"); (case h3 => exact rfl)) | fail)
local macro_rules | `(tactic| walk_at "e1") => `(tactic| first | assumption | exact E1.same _ | exact e1_str | exact e1_int | exact e1_bl | exact e1_non | fail)
local macro_rules | `(tactic| walk_at "e1s") => `(tactic| first | assumption | exact E1s.nil | ((with_reducible refine' E1s.cons ?h1 ?h2); (case h1 => walk_at "e1"); (case h2 => walk_at "e1s")) | fail)
local macro_rules | `(tactic| walk_at "rd0") => `(tactic| first
  | with_reducible refine q_raise ?_ | with_reducible refine q_try ?_ | with_reducible refine q_wE ?_
  | ((with_reducible refine' q_clN ?h1 ?_); (case h1 => walk_at "xm")) | ((with_reducible refine' q_clN0 ?h1 ?_); (case h1 => walk_at "xm"))
  | ((with_reducible refine' q_clP ?h1 ?_); (case h1 => walk_at "xm")) | ((with_reducible refine' q_clP0 ?h1 ?_); (case h1 => walk_at "xm"))
  | with_reducible refine q_xg ?_ | ((with_reducible refine' q_xgb ?h1 ?h2 ?h3 ?h4 ?_); (case h1 => walk_at "lk"); (case h2 => walk_at "xf"); (case h3 => walk_at "xn"); (case h4 => walk_at "lu"))
  | ((with_reducible refine' q_isX ?h1 ?h2 ?h3 ?h4 ?_); (case h1 => walk_at "lk"); (case h2 => walk_at "xc"); (case h3 => (first | exact ClsV.ty _ | exact ClsV.own _)); (case h4 => walk_at "kit"))
  | with_reducible refine q_callSD ?_ | with_reducible refine q_methE ?_ | with_reducible refine q_makeE ?_ | ((with_reducible refine' q_methb ?h1 ?h2 ?_); (case h1 => walk_at "lk"); (case h2 => walk_at "lun"))
  | ((with_reducible refine' q_lenO ?h1 ?_); (case h1 => walk_at "lk")) | ((with_reducible refine' q_lenI ?h1 ?h2 ?_); (case h1 => walk_at "sd"); (case h2 => walk_at "sd"))
  | ((with_reducible refine' q_eqO ?h1 ?h2 ?_); (case h1 => walk_at "lk"); (case h2 => walk_at "lk")) | with_reducible refine q_bz ?_
  | ((with_reducible refine' q_fldP ?h1 ?h2 ?h3 ?h4 ?_); (case h1 => walk_at "lk"); (case h2 => walk_at "cls"); (case h3 => walk_at "noa"); (case h4 => walk_at "lu"))
  | ((with_reducible refine' q_eqTI ?h1 ?h2 ?_); (case h1 => walk_at "sq"); (case h2 => walk_at "sq")) | ((with_reducible refine' q_neTI ?h1 ?h2 ?_); (case h1 => walk_at "sq"); (case h2 => walk_at "sq")) | ((with_reducible refine' q_eqLI ?h1 ?h2 ?_); (case h1 => walk_at "sq"); (case h2 => walk_at "sq")) | ((with_reducible refine' q_neLI ?h1 ?h2 ?_); (case h1 => walk_at "sq"); (case h2 => walk_at "sq"))
  | with_reducible refine q_revL ?_ | ((with_reducible refine' q_revLb ?h1 ?_); (case h1 => walk_at "sq")) | with_reducible refine q_iTup ?_ | ((with_reducible refine' q_iTupb ?h1 ?_); (case h1 => walk_at "sq"))
  | with_reducible refine q_intB ?_ | with_reducible refine q_intI ?_ | with_reducible refine q_yes ?_ | ((with_reducible refine' q_ixL ?h1 ?h2 ?_); (case h1 => walk_at "sq"); (case h2 => (refine atI_map ?_; walk_at "sd")))
  | with_reducible refine q_zipA ?_ | ((with_reducible refine' q_zipT ?h1 ?h2 ?_); (case h1 => walk_at "sq"); (case h2 => walk_at "sq")) | ((with_reducible refine' q_gtup ?h1 ?h2 ?_); (case h1 => walk_at "sq"); (case h2 => exact rfl))
  | ((with_reducible refine' q_neXT ?h1 ?h2 ?h3 ?_); (case h1 => walk_at "sq"); (case h2 => walk_at "sq"); (case h3 => walk_at "e1s")) | ((with_reducible refine' q_eqXT ?h1 ?h2 ?h3 ?_); (case h1 => walk_at "sq"); (case h2 => walk_at "sq"); (case h3 => walk_at "e1s")) | fail)
local macro_rules | `(tactic| walk_at "sd") => `(tactic| first | omega | (simp only [List.length_map, List.length_range, List.length_cons, List.length_nil, List.length_append, List.length_zip, List.length_zipWith] at *; omega) | fail)
local macro_rules | `(tactic| walk_at "cd") => `(tactic| first | assumption | omega | (simp only [List.length_map, List.length_range, List.length_cons, List.length_nil, List.length_append]; omega) | with_reducible decide | exact rfl | fail)

local macro_rules | `(tactic| walk_at "at") => `(tactic| first | with_reducible exact at0z | with_reducible exact at1z | with_reducible exact at2z | fail)

def topS (i : Nat) : Stmt := PySem.Challenge.pw_causehall_k05_all_joined.main.body.getD i (.Pass ⟨0, 0, 0, 0⟩)

abbrev s_is_whole : Stmt := topS 8
theorem sc_is_whole : FnScope ["thing", "low", "high"] ["thing", "low", "high"] (defScope s_is_whole) := ⟨rfl, rfl, rfl, by decide +kernel, rfl, by decide +kernel, by decide +kernel⟩
abbrev s_is_list : Stmt := topS 12
theorem sc_is_list : FnScope ["thing"] ["thing"] (defScope s_is_list) := ⟨rfl, rfl, rfl, by decide +kernel, rfl, by decide +kernel, by decide +kernel⟩
abbrev s_Counts_init : Stmt := inClass (topS 17) 0
theorem sc_Counts_init : FnScope ["self", "numbers", "number"] ["self", "numbers"] (defScope s_Counts_init) := ⟨rfl, rfl, rfl, by decide +kernel, rfl, by decide +kernel, by decide +kernel⟩
abbrev s_Counts_len : Stmt := inClass (topS 17) 1
theorem sc_Counts_len : FnScope ["self"] ["self"] (defScope s_Counts_len) := ⟨rfl, rfl, rfl, by decide +kernel, rfl, by decide +kernel, by decide +kernel⟩
abbrev s_Counts_told : Stmt := inClass (topS 17) 5
theorem sc_Counts_told : FnScope ["self"] ["self"] (defScope s_Counts_told) := ⟨rfl, rfl, rfl, by decide +kernel, rfl, by decide +kernel, by decide +kernel⟩
abbrev s_Counts_check_like : Stmt := inClass (topS 17) 15
theorem sc_Counts_check_like : FnScope ["self", "other"] ["self", "other"] (defScope s_Counts_check_like) := ⟨rfl, rfl, rfl, by decide +kernel, rfl, by decide +kernel, by decide +kernel⟩
abbrev s_Counts_joined : Stmt := inClass (topS 17) 8
theorem sc_Counts_joined : FnScope ["self", "other", "own", "its"] ["self", "other"] (defScope s_Counts_joined) := ⟨rfl, rfl, rfl, by decide +kernel, rfl, by decide +kernel, by decide +kernel⟩
abbrev s_law_take : Stmt := topS 22
theorem sc_law_take : FnScope ["pool", "size", "found"] ["pool", "size"] (defScope s_law_take) := ⟨rfl, rfl, rfl, by decide +kernel, rfl, by decide +kernel, by decide +kernel⟩
abbrev s_law_pool : Stmt := topS 21
theorem sc_law_pool : FnScope ["cell", "number", "k", "mix"] ["cell"] (defScope s_law_pool) := ⟨rfl, rfl, rfl, by decide +kernel, rfl, by decide +kernel, by decide +kernel⟩
abbrev s_law_numbers : Stmt := topS 23
theorem sc_law_numbers : FnScope ["pool", "members", "size", "k"] ["pool", "members"] (defScope s_law_numbers) := ⟨rfl, rfl, rfl, by decide +kernel, rfl, by decide +kernel, by decide +kernel⟩
abbrev s_check_members : Stmt := topS 14
theorem sc_check_members : FnScope ["members"] ["members"] (defScope s_check_members) := ⟨rfl, rfl, rfl, by decide +kernel, rfl, by decide +kernel, by decide +kernel⟩
abbrev s_law_cell_at : Stmt := topS 20
theorem sc_law_cell_at : FnScope ["script", "k"] ["script", "k"] (defScope s_law_cell_at) := ⟨rfl, rfl, rfl, by decide +kernel, rfl, by decide +kernel, by decide +kernel⟩
abbrev s_all_joined : Stmt := topS 18
theorem sc_all_joined : FnScope ["members", "rows", "joined", "row"] ["members", "rows"] (defScope s_all_joined) := ⟨rfl, rfl, rfl, by decide +kernel, rfl, by decide +kernel, by decide +kernel⟩
abbrev s_law_rows : Stmt := topS 24
theorem sc_law_rows : FnScope ["script", "members", "count", "rows", "k", "cell"] ["script", "members", "count"] (defScope s_law_rows) := ⟨rfl, rfl, rfl, by decide +kernel, rfl, by decide +kernel, by decide +kernel⟩
abbrev s_law_first : Stmt := topS 25
theorem sc_law_first : FnScope ["members", "rows", "e"] ["members", "rows"] (defScope s_law_first) := ⟨rfl, rfl, rfl, by decide +kernel, rfl, by decide +kernel, by decide +kernel⟩
abbrev s_law_right : Stmt := topS 26
theorem sc_law_right : FnScope ["members", "rows", "handed", "told", "due", "row", "k", "counts"] ["members", "rows", "handed"] (defScope s_law_right) := ⟨rfl, rfl, rfl, by decide +kernel, rfl, by decide +kernel, by decide +kernel⟩
abbrev s_law : Stmt := topS 27
theorem sc_law : FnScope ["script", "members", "count", "rows", "some", "other", "at", "thing", "spoilt", "flat", "number", "row", "handed"] ["script"] (defScope s_law) := ⟨rfl, rfl, rfl, by decide +kernel, rfl, by decide +kernel, by decide +kernel⟩
structure Tx (K : PySem.W.Frag) (mg : Str → Option Value) where
  f_is_whole : Addr
  d_is_whole : FuncData
  F_is_whole : FunD K "is_whole" "is_whole" (defArgs s_is_whole) (defBody s_is_whole) (defScope s_is_whole) [.non] [] f_is_whole d_is_whole
  m_is_whole : mg "is_whole" = some (.ref f_is_whole)
  k_is_whole : PySem.W.keepIn K (.ref f_is_whole) = true
  ds_is_whole_2 : List Value
  v_is_whole_2 : Vals [.non] ds_is_whole_2
  b_is_whole_2 : Binds K d_is_whole ["thing", "low", "high"] ds_is_whole_2
  b_is_whole : Binds K d_is_whole ["thing", "low", "high"] []
  f_is_list : Addr
  d_is_list : FuncData
  F_is_list : Fun K "is_list" "is_list" s_is_list f_is_list d_is_list
  m_is_list : mg "is_list" = some (.ref f_is_list)
  k_is_list : PySem.W.keepIn K (.ref f_is_list) = true
  b_is_list : Binds K d_is_list ["thing"] []
  f_Counts_init : Addr
  d_Counts_init : FuncData
  F_Counts_init : Fun K "__init__" "Counts.__init__" s_Counts_init f_Counts_init d_Counts_init
  b_Counts_init : Binds K d_Counts_init ["self", "numbers"] []
  f_Counts_len : Addr
  d_Counts_len : FuncData
  F_Counts_len : Fun K "__len__" "Counts.__len__" s_Counts_len f_Counts_len d_Counts_len
  b_Counts_len : Binds K d_Counts_len ["self"] []
  f_Counts_told : Addr
  d_Counts_told : FuncData
  F_Counts_told : Fun K "told" "Counts.told" s_Counts_told f_Counts_told d_Counts_told
  b_Counts_told : Binds K d_Counts_told ["self"] []
  f_Counts_check_like : Addr
  d_Counts_check_like : FuncData
  F_Counts_check_like : Fun K "_check_like" "Counts._check_like" s_Counts_check_like f_Counts_check_like d_Counts_check_like
  b_Counts_check_like : Binds K d_Counts_check_like ["self", "other"] []
  f_Counts_joined : Addr
  d_Counts_joined : FuncData
  F_Counts_joined : Fun K "joined" "Counts.joined" s_Counts_joined f_Counts_joined d_Counts_joined
  b_Counts_joined : Binds K d_Counts_joined ["self", "other"] []
  f_law_take : Addr
  d_law_take : FuncData
  F_law_take : Fun K "_law_take" "_law_take" s_law_take f_law_take d_law_take
  m_law_take : mg "_law_take" = some (.ref f_law_take)
  k_law_take : PySem.W.keepIn K (.ref f_law_take) = true
  b_law_take : Binds K d_law_take ["pool", "size"] []
  f_law_pool : Addr
  d_law_pool : FuncData
  F_law_pool : Fun K "_law_pool" "_law_pool" s_law_pool f_law_pool d_law_pool
  m_law_pool : mg "_law_pool" = some (.ref f_law_pool)
  k_law_pool : PySem.W.keepIn K (.ref f_law_pool) = true
  b_law_pool : Binds K d_law_pool ["cell"] []
  f_law_numbers : Addr
  d_law_numbers : FuncData
  F_law_numbers : Fun K "_law_numbers" "_law_numbers" s_law_numbers f_law_numbers d_law_numbers
  m_law_numbers : mg "_law_numbers" = some (.ref f_law_numbers)
  k_law_numbers : PySem.W.keepIn K (.ref f_law_numbers) = true
  b_law_numbers : Binds K d_law_numbers ["pool", "members"] []
  f_check_members : Addr
  d_check_members : FuncData
  F_check_members : Fun K "check_members" "check_members" s_check_members f_check_members d_check_members
  m_check_members : mg "check_members" = some (.ref f_check_members)
  k_check_members : PySem.W.keepIn K (.ref f_check_members) = true
  b_check_members : Binds K d_check_members ["members"] []
  f_law_cell_at : Addr
  d_law_cell_at : FuncData
  F_law_cell_at : Fun K "_law_cell_at" "_law_cell_at" s_law_cell_at f_law_cell_at d_law_cell_at
  m_law_cell_at : mg "_law_cell_at" = some (.ref f_law_cell_at)
  k_law_cell_at : PySem.W.keepIn K (.ref f_law_cell_at) = true
  b_law_cell_at : Binds K d_law_cell_at ["script", "k"] []
  f_all_joined : Addr
  d_all_joined : FuncData
  F_all_joined : Fun K "all_joined" "all_joined" s_all_joined f_all_joined d_all_joined
  m_all_joined : mg "all_joined" = some (.ref f_all_joined)
  k_all_joined : PySem.W.keepIn K (.ref f_all_joined) = true
  b_all_joined : Binds K d_all_joined ["members", "rows"] []
  f_law_rows : Addr
  d_law_rows : FuncData
  F_law_rows : Fun K "_law_rows" "_law_rows" s_law_rows f_law_rows d_law_rows
  m_law_rows : mg "_law_rows" = some (.ref f_law_rows)
  k_law_rows : PySem.W.keepIn K (.ref f_law_rows) = true
  b_law_rows : Binds K d_law_rows ["script", "members", "count"] []
  f_law_first : Addr
  d_law_first : FuncData
  F_law_first : Fun K "_law_first" "_law_first" s_law_first f_law_first d_law_first
  m_law_first : mg "_law_first" = some (.ref f_law_first)
  k_law_first : PySem.W.keepIn K (.ref f_law_first) = true
  b_law_first : Binds K d_law_first ["members", "rows"] []
  f_law_right : Addr
  d_law_right : FuncData
  F_law_right : Fun K "_law_right" "_law_right" s_law_right f_law_right d_law_right
  m_law_right : mg "_law_right" = some (.ref f_law_right)
  k_law_right : PySem.W.keepIn K (.ref f_law_right) = true
  b_law_right : Binds K d_law_right ["members", "rows", "handed"] []
  f_law : Addr
  d_law : FuncData
  F_law : Fun K "law" "law" s_law f_law d_law
  m_law : mg "law" = some (.ref f_law)
  k_law : PySem.W.keepIn K (.ref f_law) = true
  b_law : Binds K d_law ["script"] []
  C_Counts : Addr
  g_Counts : mg "Counts" = some (.ref C_Counts)
  c_Counts : Cls K C_Counts
  ha_Counts : PySem.W.findIn K (.ref C_Counts) "__class__" = some (some (.builtin "object.__class__"))
  hm_Counts : PySem.W.mroIn K C_Counts (.type "object") = some true
  hdx_Counts : PySem.W.hasDictIn K C_Counts = true
  ty_Counts : PySem.W.typeIn K (.ref C_Counts) = some (.type "type")
  nt_NoneType_Counts : PySem.W.subIn K (.type "NoneType") (.ref C_Counts) = some false
  nt_bool_Counts : PySem.W.subIn K (.type "bool") (.ref C_Counts) = some false
  nt_int_Counts : PySem.W.subIn K (.type "int") (.ref C_Counts) = some false
  nt_str_Counts : PySem.W.subIn K (.type "str") (.ref C_Counts) = some false
  nt_list_Counts : PySem.W.subIn K (.type "list") (.ref C_Counts) = some false
  nt_tuple_Counts : PySem.W.subIn K (.type "tuple") (.ref C_Counts) = some false
  nt_dict_Counts : PySem.W.subIn K (.type "dict") (.ref C_Counts) = some false
  n_Counts__numbers : NoAttr K C_Counts "_numbers"
  mk_Counts : Mk K C_Counts f_Counts_init
  mt_Counts_len : Meth K C_Counts "__len__" f_Counts_len
  mt_Counts_told : Meth K C_Counts "told" f_Counts_told
  mt_Counts_check_like : Meth K C_Counts "_check_like" f_Counts_check_like
  mt_Counts_joined : Meth K C_Counts "joined" f_Counts_joined
  C_HallError : Addr
  g_HallError : mg "HallError" = some (.ref C_HallError)
  C_NoCounts : Addr
  g_NoCounts : mg "NoCounts" = some (.ref C_NoCounts)
  C_NoNumber : Addr
  g_NoNumber : mg "NoNumber" = some (.ref C_NoNumber)
  C_Unlike : Addr
  g_Unlike : mg "Unlike" = some (.ref C_Unlike)
  exC_HallError : PySem.W.subIn K (.ref C_HallError) (.type "BaseException") = some true
  hdx_HallError : PySem.W.hasDictIn K C_HallError = true
  ty_HallError : PySem.W.typeIn K (.ref C_HallError) = some (.type "type")
  ss_HallError : PySem.W.subIn K (.ref C_HallError) (.ref C_HallError) = some true
  exC_NoCounts : PySem.W.subIn K (.ref C_NoCounts) (.type "BaseException") = some true
  hdx_NoCounts : PySem.W.hasDictIn K C_NoCounts = true
  ty_NoCounts : PySem.W.typeIn K (.ref C_NoCounts) = some (.type "type")
  ss_NoCounts : PySem.W.subIn K (.ref C_NoCounts) (.ref C_NoCounts) = some true
  exC_NoNumber : PySem.W.subIn K (.ref C_NoNumber) (.type "BaseException") = some true
  hdx_NoNumber : PySem.W.hasDictIn K C_NoNumber = true
  ty_NoNumber : PySem.W.typeIn K (.ref C_NoNumber) = some (.type "type")
  ss_NoNumber : PySem.W.subIn K (.ref C_NoNumber) (.ref C_NoNumber) = some true
  exC_Unlike : PySem.W.subIn K (.ref C_Unlike) (.type "BaseException") = some true
  hdx_Unlike : PySem.W.hasDictIn K C_Unlike = true
  ty_Unlike : PySem.W.typeIn K (.ref C_Unlike) = some (.type "type")
  ss_Unlike : PySem.W.subIn K (.ref C_Unlike) (.ref C_Unlike) = some true
  fI_NoCounts : Addr
  ox_NoCounts : OexS K C_NoCounts fI_NoCounts "ValueError" "ValueError.__new__" "ValueError.__init__" veT "found"
  xf_NoCounts : XfC K C_NoCounts
  xc_NoCounts : ExcC K C_NoCounts
  nf_NoCounts : PySem.W.findIn K (.ref C_NoCounts) "found" = some none
  sb_NoCounts_HallError : PySem.W.subIn K (.ref C_NoCounts) (.ref C_HallError) = some true
  sb_NoCounts_NoCounts : PySem.W.subIn K (.ref C_NoCounts) (.ref C_NoCounts) = some true
  sb_NoCounts_NoNumber : PySem.W.subIn K (.ref C_NoCounts) (.ref C_NoNumber) = some false
  fI_NoNumber : Addr
  ox_NoNumber : OexS K C_NoNumber fI_NoNumber "ValueError" "ValueError.__new__" "ValueError.__init__" veT "found"
  xf_NoNumber : XfC K C_NoNumber
  xc_NoNumber : ExcC K C_NoNumber
  nf_NoNumber : PySem.W.findIn K (.ref C_NoNumber) "found" = some none
  sb_NoNumber_HallError : PySem.W.subIn K (.ref C_NoNumber) (.ref C_HallError) = some true
  sb_NoNumber_NoCounts : PySem.W.subIn K (.ref C_NoNumber) (.ref C_NoCounts) = some false
  sb_NoNumber_NoNumber : PySem.W.subIn K (.ref C_NoNumber) (.ref C_NoNumber) = some true
  fI_Unlike : Addr
  ox_Unlike : OexS K C_Unlike fI_Unlike "ValueError" "ValueError.__new__" "ValueError.__init__" veT "found"
  xf_Unlike : XfC K C_Unlike
  xc_Unlike : ExcC K C_Unlike
  nf_Unlike : PySem.W.findIn K (.ref C_Unlike) "found" = some none
  sb_Unlike_HallError : PySem.W.subIn K (.ref C_Unlike) (.ref C_HallError) = some true
  sb_Unlike_NoCounts : PySem.W.subIn K (.ref C_Unlike) (.ref C_NoCounts) = some false
  sb_Unlike_NoNumber : PySem.W.subIn K (.ref C_Unlike) (.ref C_NoNumber) = some false
  hn : PySem.W.specialIn K (.builtin "object.__class__") "__get__" = some (some (.builtin "getset_descriptor.__get__"))
  htk : PySem.W.takesIn K (.builtin "object.__class__") = some true
  ki_Counts : PySem.W.subIn K (.ref C_Counts) (.type "int") = some false
  kl_Counts : PySem.W.subIn K (.ref C_Counts) (.type "list") = some false
  kt_Counts : PySem.W.subIn K (.ref C_Counts) (.type "tuple") = some false
  z_all : mg "all" = none
  z_bool : mg "bool" = none
  z_int : mg "int" = none
  z_isinstance : mg "isinstance" = none
  z_len : mg "len" = none
  z_list : mg "list" = none
  z_max : mg "max" = none
  z_min : mg "min" = none
  z_range : mg "range" = none
  z_super : mg "super" = none
  z_tuple : mg "tuple" = none
  z_zip : mg "zip" = none
  t_LEAST_MEMBERS : Tok
  g_LEAST_MEMBERS : mg "LEAST_MEMBERS" = some (.int 2 t_LEAST_MEMBERS)
  t_MOST_MEMBERS : Tok
  g_MOST_MEMBERS : mg "MOST_MEMBERS" = some (.int 5 t_MOST_MEMBERS)
def sp_is_whole (K : PySem.W.Frag) : Sp := fun vs H Q E => (∃ (n a : Int), vs = [.int n, .int a, .non] ∧ Q (.bl (decide (a ≤ n))) H) ∨
  (∃ (n a b : Int), vs = [.int n, .int a, .int b] ∧ Q (.bl (decide (a ≤ n) && decide (n ≤ b))) H) ∨
  (∃ (c : Bool) (y z : V), vs = [.bl c, y, z] ∧ Q (.bl false) H) ∨
  (∃ (x y z : V) (t : Value), vs = [x, y, z] ∧ (TyX K H x t) ∧ (PySem.W.kitOne K t (.type "int") = some false) ∧ Q (.bl false) H)
theorem r_is_whole_1 {K : PySem.W.Frag} {H : Hp} {Q : VK} {E : XK} {vv : List V} {n a : Int} (ee : vv = [.int n, .int a, .non])  (k : Q (.bl (decide (a ≤ n))) H) : sp_is_whole K vv H Q E := by
  subst ee
  exact .inl ⟨n, a, rfl, k⟩
theorem r_is_whole_2 {K : PySem.W.Frag} {H : Hp} {Q : VK} {E : XK} {vv : List V} {n a b : Int} (ee : vv = [.int n, .int a, .int b])  (k : Q (.bl (decide (a ≤ n) && decide (n ≤ b))) H) : sp_is_whole K vv H Q E := by
  subst ee
  exact .inr (.inl ⟨n, a, b, rfl, k⟩)
theorem r_is_whole_3 {K : PySem.W.Frag} {H : Hp} {Q : VK} {E : XK} {vv : List V} {c : Bool} {y z : V} (ee : vv = [.bl c, y, z])  (k : Q (.bl false) H) : sp_is_whole K vv H Q E := by
  subst ee
  exact .inr (.inr (.inl ⟨c, y, z, rfl, k⟩))
theorem r_is_whole_4 {K : PySem.W.Frag} {H : Hp} {Q : VK} {E : XK} {vv : List V} {x y z : V} {t : Value} (ee : vv = [x, y, z]) (ht : TyX K H x t) (hk : PySem.W.kitOne K t (.type "int") = some false) (k : Q (.bl false) H) : sp_is_whole K vv H Q E := by
  subst ee
  exact .inr (.inr (.inr (⟨x, y, z, t, rfl, ht, hk, k⟩)))
def sp_is_list (K : PySem.W.Frag) : Sp := fun vs H Q E => (∃ (x : V) (t : Value) (b : Bool), vs = [x] ∧ (TyX K H x t) ∧ (PySem.W.kitAny K t [.type "list", .type "tuple"] = some b) ∧ ∀ H', Same H H' → Q (.bl b) H')
theorem r_is_list {K : PySem.W.Frag} {H : Hp} {Q : VK} {E : XK} {vv : List V} {x : V} {t : Value} {b : Bool} (ee : vv = [x]) (ht : TyX K H x t) (hk : PySem.W.kitAny K t [.type "list", .type "tuple"] = some b) (k : ∀ H', Same H H' → Q (.bl b) H') : sp_is_list K vv H Q E := by
  subst ee
  exact ⟨x, t, b, rfl, ht, hk, k⟩
def sp_Counts_init (K : PySem.W.Frag) (C : Addr) : Sp := fun vs H Q E => (∃ (p dx a : Addr) (xs : List V), vs = [.ref p, .ref a] ∧ (H p = some (.ins C dx [])) ∧ (H a = some (.lst xs)) ∧ (2 ≤ xs.length) ∧ (xs.length ≤ 5) ∧ (NN xs) ∧ ∀ (t : Addr) (H' : Hp), Fr1 p H H' → H' p = some (.ins C dx [("_numbers", .ref t)]) → H' t = some (.tup xs) → Q .non H')
theorem r_Counts_init {K : PySem.W.Frag} {C : Addr} {H : Hp} {Q : VK} {E : XK} {vv : List V} {p dx a : Addr} {xs : List V} (ee : vv = [.ref p, .ref a]) (hp : H p = some (.ins C dx [])) (ha : H a = some (.lst xs)) (hl : 2 ≤ xs.length) (hl2 : xs.length ≤ 5) (hn : NN xs) (k : ∀ (t : Addr) (H' : Hp), Fr1 p H H' → H' p = some (.ins C dx [("_numbers", .ref t)]) → H' t = some (.tup xs) → Q .non H') : sp_Counts_init K C vv H Q E := by
  subst ee
  exact ⟨p, dx, a, xs, rfl, hp, ha, hl, hl2, hn, k⟩
def sp_Counts_len (K : PySem.W.Frag) (C : Addr) : Sp := fun vs H Q E => (∃ (p dx t : Addr) (xs : List V), vs = [.ref p] ∧ (H p = some (.ins C dx [("_numbers", .ref t)])) ∧ (H t = some (.tup xs)) ∧ Q (.int (xs.length : Nat)) H)
theorem r_Counts_len {K : PySem.W.Frag} {C : Addr} {H : Hp} {Q : VK} {E : XK} {vv : List V} {p dx t : Addr} {xs : List V} (ee : vv = [.ref p]) (hp : H p = some (.ins C dx [("_numbers", .ref t)])) (ht : H t = some (.tup xs)) (k : Q (.int (xs.length : Nat)) H) : sp_Counts_len K C vv H Q E := by
  subst ee
  exact ⟨p, dx, t, xs, rfl, hp, ht, k⟩
def sp_Counts_told (K : PySem.W.Frag) (C : Addr) : Sp := fun vs H Q E => (∃ (p dx t : Addr), vs = [.ref p] ∧ (H p = some (.ins C dx [("_numbers", .ref t)])) ∧ Q (.ref t) H)
theorem r_Counts_told {K : PySem.W.Frag} {C : Addr} {H : Hp} {Q : VK} {E : XK} {vv : List V} {p dx t : Addr} (ee : vv = [.ref p]) (hp : H p = some (.ins C dx [("_numbers", .ref t)])) (k : Q (.ref t) H) : sp_Counts_told K C vv H Q E := by
  subst ee
  exact ⟨p, dx, t, rfl, hp, k⟩
def sp_Counts_check_like (K : PySem.W.Frag) (C CN CU : Addr) : Sp := fun vs H Q E => (∃ (p dx t q dy u : Addr) (ms ns : List Int), vs = [.ref p, .ref q] ∧ (H p = some (.ins C dx [("_numbers", .ref t)])) ∧ (H t = some (.tup (ms.map V.int))) ∧ (H q = some (.ins C dy [("_numbers", .ref u)])) ∧ (H u = some (.tup (ns.map V.int))) ∧ (ns.length = ms.length) ∧ (ms.length ≤ 5) ∧ Q .non H) ∨
  (∃ (p dx t q dy u : Addr) (ms ns : List Int), vs = [.ref p, .ref q] ∧ (H p = some (.ins C dx [("_numbers", .ref t)])) ∧ (H t = some (.tup (ms.map V.int))) ∧ (H q = some (.ins C dy [("_numbers", .ref u)])) ∧ (H u = some (.tup (ns.map V.int))) ∧ (ns.length ≠ ms.length) ∧ (ms.length ≤ 5) ∧ (ns.length ≤ 5) ∧ ∀ d, H d = none → E (.ref CU) (some d) (upd H d (.xd [("found", .ref q)]))) ∨
  (∃ (p dx t : Addr) (x : V) (ty : Value), vs = [.ref p, x] ∧ (H p = some (.ins C dx [("_numbers", .ref t)])) ∧ (TyX K H x ty) ∧ (PySem.W.kitOne K ty (.ref C) = some false) ∧ ∀ d, H d = none → E (.ref CN) (some d) (upd H d (.xd [("found", x)])))
theorem r_Counts_check_like_1 {K : PySem.W.Frag} {C CN CU : Addr} {H : Hp} {Q : VK} {E : XK} {vv : List V} {p dx t q dy u : Addr} {ms ns : List Int} (ee : vv = [.ref p, .ref q]) (hp : H p = some (.ins C dx [("_numbers", .ref t)])) (ht : H t = some (.tup (ms.map V.int))) (hq : H q = some (.ins C dy [("_numbers", .ref u)])) (hu : H u = some (.tup (ns.map V.int))) (hl : ns.length = ms.length) (hs : ms.length ≤ 5) (k : Q .non H) : sp_Counts_check_like K C CN CU vv H Q E := by
  subst ee
  exact .inl ⟨p, dx, t, q, dy, u, ms, ns, rfl, hp, ht, hq, hu, hl, hs, k⟩
theorem r_Counts_check_like_2 {K : PySem.W.Frag} {C CN CU : Addr} {H : Hp} {Q : VK} {E : XK} {vv : List V} {p dx t q dy u : Addr} {ms ns : List Int} (ee : vv = [.ref p, .ref q]) (hp : H p = some (.ins C dx [("_numbers", .ref t)])) (ht : H t = some (.tup (ms.map V.int))) (hq : H q = some (.ins C dy [("_numbers", .ref u)])) (hu : H u = some (.tup (ns.map V.int))) (hl : ns.length ≠ ms.length) (hs : ms.length ≤ 5) (hs2 : ns.length ≤ 5) (k : ∀ d, H d = none → E (.ref CU) (some d) (upd H d (.xd [("found", .ref q)]))) : sp_Counts_check_like K C CN CU vv H Q E := by
  subst ee
  exact .inr (.inl ⟨p, dx, t, q, dy, u, ms, ns, rfl, hp, ht, hq, hu, hl, hs, hs2, k⟩)
theorem r_Counts_check_like_3 {K : PySem.W.Frag} {C CN CU : Addr} {H : Hp} {Q : VK} {E : XK} {vv : List V} {p dx t : Addr} {x : V} {ty : Value} (ee : vv = [.ref p, x]) (hp : H p = some (.ins C dx [("_numbers", .ref t)])) (hx : TyX K H x ty) (hk : PySem.W.kitOne K ty (.ref C) = some false) (k : ∀ d, H d = none → E (.ref CN) (some d) (upd H d (.xd [("found", x)]))) : sp_Counts_check_like K C CN CU vv H Q E := by
  subst ee
  exact .inr (.inr (⟨p, dx, t, x, ty, rfl, hp, hx, hk, k⟩))
def sp_Counts_joined (K : PySem.W.Frag) (C CN CU : Addr) : Sp := fun vs H Q E => (∃ (p dx t q dy u : Addr) (ms ns : List Int), vs = [.ref p, .ref q] ∧ (H p = some (.ins C dx [("_numbers", .ref t)])) ∧ (H t = some (.tup (ms.map V.int))) ∧ (H q = some (.ins C dy [("_numbers", .ref u)])) ∧ (H u = some (.tup (ns.map V.int))) ∧ (ns.length = ms.length) ∧ (2 ≤ ms.length) ∧ (ms.length ≤ 5) ∧ (∀ n ∈ ms, 0 ≤ n) ∧ (∀ n ∈ ns, 0 ≤ n) ∧ ∀ (r dz v : Addr) (H' : Hp), Same H H' → H' r = some (.ins C dz [("_numbers", .ref v)]) → H' v = some (.tup ((List.zipWith max ms ns).map V.int)) → Q (.ref r) H') ∨
  (∃ (p dx t q dy u : Addr) (ms ns : List Int), vs = [.ref p, .ref q] ∧ (H p = some (.ins C dx [("_numbers", .ref t)])) ∧ (H t = some (.tup (ms.map V.int))) ∧ (H q = some (.ins C dy [("_numbers", .ref u)])) ∧ (H u = some (.tup (ns.map V.int))) ∧ (ns.length ≠ ms.length) ∧ (ms.length ≤ 5) ∧ (ns.length ≤ 5) ∧ ∀ d, H d = none → E (.ref CU) (some d) (upd H d (.xd [("found", .ref q)]))) ∨
  (∃ (p dx t : Addr) (x : V) (ty : Value), vs = [.ref p, x] ∧ (H p = some (.ins C dx [("_numbers", .ref t)])) ∧ (TyX K H x ty) ∧ (PySem.W.kitOne K ty (.ref C) = some false) ∧ ∀ d, H d = none → E (.ref CN) (some d) (upd H d (.xd [("found", x)])))
theorem r_Counts_joined_1 {K : PySem.W.Frag} {C CN CU : Addr} {H : Hp} {Q : VK} {E : XK} {vv : List V} {p dx t q dy u : Addr} {ms ns : List Int} (ee : vv = [.ref p, .ref q]) (hp : H p = some (.ins C dx [("_numbers", .ref t)])) (ht : H t = some (.tup (ms.map V.int))) (hq : H q = some (.ins C dy [("_numbers", .ref u)])) (hu : H u = some (.tup (ns.map V.int))) (hl : ns.length = ms.length) (h2 : 2 ≤ ms.length) (h5 : ms.length ≤ 5) (hm : ∀ n ∈ ms, 0 ≤ n) (hn : ∀ n ∈ ns, 0 ≤ n) (k : ∀ (r dz v : Addr) (H' : Hp), Same H H' → H' r = some (.ins C dz [("_numbers", .ref v)]) → H' v = some (.tup ((List.zipWith max ms ns).map V.int)) → Q (.ref r) H') : sp_Counts_joined K C CN CU vv H Q E := by
  subst ee
  exact .inl ⟨p, dx, t, q, dy, u, ms, ns, rfl, hp, ht, hq, hu, hl, h2, h5, hm, hn, k⟩
theorem r_Counts_joined_2 {K : PySem.W.Frag} {C CN CU : Addr} {H : Hp} {Q : VK} {E : XK} {vv : List V} {p dx t q dy u : Addr} {ms ns : List Int} (ee : vv = [.ref p, .ref q]) (hp : H p = some (.ins C dx [("_numbers", .ref t)])) (ht : H t = some (.tup (ms.map V.int))) (hq : H q = some (.ins C dy [("_numbers", .ref u)])) (hu : H u = some (.tup (ns.map V.int))) (hl : ns.length ≠ ms.length) (hs : ms.length ≤ 5) (hs2 : ns.length ≤ 5) (k : ∀ d, H d = none → E (.ref CU) (some d) (upd H d (.xd [("found", .ref q)]))) : sp_Counts_joined K C CN CU vv H Q E := by
  subst ee
  exact .inr (.inl ⟨p, dx, t, q, dy, u, ms, ns, rfl, hp, ht, hq, hu, hl, hs, hs2, k⟩)
theorem r_Counts_joined_3 {K : PySem.W.Frag} {C CN CU : Addr} {H : Hp} {Q : VK} {E : XK} {vv : List V} {p dx t : Addr} {x : V} {ty : Value} (ee : vv = [.ref p, x]) (hp : H p = some (.ins C dx [("_numbers", .ref t)])) (hx : TyX K H x ty) (hk : PySem.W.kitOne K ty (.ref C) = some false) (k : ∀ d, H d = none → E (.ref CN) (some d) (upd H d (.xd [("found", x)]))) : sp_Counts_joined K C CN CU vv H Q E := by
  subst ee
  exact .inr (.inr (⟨p, dx, t, x, ty, rfl, hp, hx, hk, k⟩))
def sp_law_pool  : Sp := fun vs H Q E => (∃ (cell : Int), vs = [.int cell] ∧ ∀ (p : Addr) (n : Int), H p = none → 0 ≤ n → Q (.ref p) (upd H p (.lst [.int n])))
theorem r_law_pool  {H : Hp} {Q : VK} {E : XK} {vv : List V} {cell : Int} (ee : vv = [.int cell])  (k : ∀ (p : Addr) (n : Int), H p = none → 0 ≤ n → Q (.ref p) (upd H p (.lst [.int n]))) : sp_law_pool  vv H Q E := by
  subst ee
  exact ⟨cell, rfl, k⟩
def sp_law_take  : Sp := fun vs H Q E => (∃ (p : Addr) (n m : Int), vs = [.ref p, .int m] ∧ (H p = some (.lst [.int n])) ∧ (0 < m) ∧ (m.natAbs < 2 ^ 8000) ∧ Q (.int (n % m)) (upd H p (.lst [.int (n / m)])))
theorem r_law_take  {H : Hp} {Q : VK} {E : XK} {vv : List V} {p : Addr} {n m : Int} (ee : vv = [.ref p, .int m]) (hp : H p = some (.lst [.int n])) (hm : 0 < m) (hb : m.natAbs < 2 ^ 8000) (k : Q (.int (n % m)) (upd H p (.lst [.int (n / m)]))) : sp_law_take  vv H Q E := by
  subst ee
  exact ⟨p, n, m, rfl, hp, hm, hb, k⟩
def sp_law_numbers (K : PySem.W.Frag) : Sp := fun vs H Q E => (∃ (p : Addr) (n m : Int), vs = [.ref p, .int m] ∧ (H p = some (.lst [.int n])) ∧ (0 ≤ n) ∧ (2 ≤ m) ∧ (m ≤ 5) ∧ ∀ (l : Addr) (ns : List Int) (k : Int) (H' : Hp), Fr1 p H H' → H' p = some (.lst [.int k]) → 0 ≤ k → H l = none → l ≠ p → H' l = some (.lst (ns.map V.int)) → ns.length = m.toNat → (∀ n ∈ ns, 0 ≤ n) → Q (.ref l) H')
theorem r_law_numbers {K : PySem.W.Frag} {H : Hp} {Q : VK} {E : XK} {vv : List V} {p : Addr} {n m : Int} (ee : vv = [.ref p, .int m]) (hp : H p = some (.lst [.int n])) (hn : 0 ≤ n) (hm : 2 ≤ m) (h5 : m ≤ 5) (k : ∀ (l : Addr) (ns : List Int) (k : Int) (H' : Hp), Fr1 p H H' → H' p = some (.lst [.int k]) → 0 ≤ k → H l = none → l ≠ p → H' l = some (.lst (ns.map V.int)) → ns.length = m.toNat → (∀ n ∈ ns, 0 ≤ n) → Q (.ref l) H') : sp_law_numbers K vv H Q E := by
  subst ee
  exact ⟨p, n, m, rfl, hp, hn, hm, h5, k⟩
/-- item by item -/
def At2 (P : V → List Int → Prop) (xs : List V) (css : List (List Int)) : Prop := xs.length = css.length ∧ ∀ (k : Nat) x, xs[k]? = some x → P x (css.getD k [])
theorem At2.mono {P P' : V → List Int → Prop} {xs : List V} {css : List (List Int)} (h : At2 P xs css) (m : ∀ x c, P x c → P' x c) : At2 P' xs css := ⟨h.1, fun k x e => m _ _ (h.2 k x e)⟩
theorem At2.nil {P : V → List Int → Prop} : At2 P [] [] := ⟨rfl, fun k x e => by simp at e⟩
theorem At2.snoc {P : V → List Int → Prop} {xs : List V} {css : List (List Int)} {x : V} {c : List Int} (h : At2 P xs css) (hx : P x c) : At2 P (xs ++ [x]) (css ++ [c]) := by
  refine ⟨by simp [h.1], fun k y e => ?_⟩
  have hl := h.1
  rcases Nat.lt_or_ge k xs.length with hk | hk
  · rw [List.getElem?_append_left hk] at e
    rw [List.getD_eq_getElem?_getD, List.getElem?_append_left (by omega), ← List.getD_eq_getElem?_getD]
    exact h.2 k y e
  · have hk2 : k = xs.length := by
      have := (List.getElem?_eq_some_iff.mp e).1
      simp at this
      omega
    subst hk2
    rw [List.getD_eq_getElem?_getD, hl]
    rw [List.getElem?_append_right (Nat.le_refl _)] at e
    simp at e
    subst e
    simpa using hx
theorem At2.cons {P : V → List Int → Prop} {xs : List V} {css : List (List Int)} {x : V} {c : List Int} (hx : P x c) (h : At2 P xs css) : At2 P (x :: xs) (c :: css) := by
  refine ⟨by simp [h.1], fun k y e => ?_⟩
  cases k with
  | zero =>
    simp at e
    subst e
    exact hx
  | succ k => exact h.2 k y e
theorem At2.tail {P : V → List Int → Prop} {xs : List V} {css : List (List Int)} {x : V} {c : List Int} (h : At2 P (x :: xs) (c :: css)) : P x c ∧ At2 P xs css :=
  ⟨h.2 0 x rfl, by have := h.1; simpa using this, fun k y e => h.2 (k + 1) y e⟩
theorem At2.rev {P : V → List Int → Prop} {xs : List V} {css : List (List Int)} (h : At2 P xs css) : At2 P xs.reverse css.reverse := by
  induction xs generalizing css with
  | nil =>
    cases css with
    | nil => exact At2.nil
    | cons c css =>
      have := h.1
      simp at this
  | cons x xs ih =>
    cases css with
    | nil =>
      have := h.1
      simp at this
    | cons c css =>
      rw [List.reverse_cons, List.reverse_cons]
      exact (ih h.tail.2).snoc h.tail.1
def LT (H : Hp) (a : Addr) (xs : List V) : Prop := H a = some (.lst xs) ∨ H a = some (.tup xs)
theorem LT.same {H H' : Hp} {a : Addr} {xs : List V} (h : LT H a xs) (s : Same H H') : LT H' a xs := h.imp (fun e => s _ _ e) (fun e => s _ _ e)
/-- a row of these numbers -/
def RowAt (H : Hp) (x : V) (c : List Int) : Prop := ∃ p, x = .ref p ∧ H p = some (.lst (c.map V.int))
theorem RowAt.same {H H' : Hp} {x : V} {c : List Int} (h : RowAt H x c) (s : Same H H') : RowAt H' x c := by
  obtain ⟨p, e, h1⟩ := h
  exact ⟨p, e, s _ _ h1⟩
def RowAtD (D : Addr) (H : Hp) (x : V) (c : List Int) : Prop := ∃ p, x = .ref p ∧ p ≠ D ∧ H p = some (.lst (c.map V.int))
theorem RowAtD.fr {D : Addr} {H H' : Hp} {x : V} {c : List Int} (h : RowAtD D H x c) (s : Fr1 D H H') : RowAtD D H' x c := by
  obtain ⟨p, e, n, h1⟩ := h
  exact ⟨p, e, n, s _ _ n h1⟩
/-- a tuple of these numbers -/
def TupAt (H : Hp) (x : V) (c : List Int) : Prop := ∃ t, x = .ref t ∧ H t = some (.tup (c.map V.int))
theorem TupAt.same {H H' : Hp} {x : V} {c : List Int} (h : TupAt H x c) (s : Same H H') : TupAt H' x c := by
  obtain ⟨p, e, h1⟩ := h
  exact ⟨p, e, s _ _ h1⟩
/-- Counts of these numbers -/
def CtAt (C : Addr) (H : Hp) (x : V) (c : List Int) : Prop := ∃ p dx t, x = .ref p ∧ H p = some (.ins C dx [("_numbers", .ref t)]) ∧ H t = some (.tup (c.map V.int))
theorem CtAt.same {C : Addr} {H H' : Hp} {x : V} {c : List Int} (h : CtAt C H x c) (s : Same H H') : CtAt C H' x c := by
  obtain ⟨p, dx, t, e, h1, h2⟩ := h
  exact ⟨p, dx, t, e, s _ _ h1, s _ _ h2⟩
def AllOk (m : Nat) (css : List (List Int)) : Prop := ∀ c ∈ css, c.length = m ∧ ∀ n ∈ c, 0 ≤ n
/-- a thing, and whether it is Counts of so many members -/
def ItB (K : PySem.W.Frag) (C : Addr) (H : Hp) (m : Nat) (x : V) (b : Bool) : Prop := (∃ p dx t, ∃ ns : List Int, x = .ref p ∧ H p = some (.ins C dx [("_numbers", .ref t)]) ∧ H t = some (.tup (ns.map V.int)) ∧ ns.length ≤ 5 ∧ b = decide (ns.length = m)) ∨ ∃ ty, TyX K H x ty ∧ PySem.W.kitOne K ty (.ref C) = some false ∧ b = false
theorem ItB.same {K : PySem.W.Frag} {C : Addr} {H H' : Hp} {m : Nat} {x : V} {b : Bool} (h : ItB K C H m x b) (s : Same H H') : ItB K C H' m x b := by
  rcases h with ⟨p, dx, t, ns, e, h1, h2, h3, h4⟩ | ⟨ty, h1, h2, h3⟩
  · exact .inl ⟨p, dx, t, ns, e, s _ _ h1, s _ _ h2, h3, h4⟩
  · exact .inr ⟨ty, h1.mono s, h2, h3⟩
def ItsB (K : PySem.W.Frag) (C : Addr) (H : Hp) (m : Nat) (xs : List V) (bs : List Bool) : Prop := xs.length = bs.length ∧ ∀ (k : Nat) x, xs[k]? = some x → ItB K C H m x (bs.getD k false)
theorem ItsB.same {K : PySem.W.Frag} {C : Addr} {H H' : Hp} {m : Nat} {xs : List V} {bs : List Bool} (h : ItsB K C H m xs bs) (s : Same H H') : ItsB K C H' m xs bs := ⟨h.1, fun k x e => (h.2 k x e).same s⟩
/-- what is no number of members -/
def NotW (K : PySem.W.Frag) (H : Hp) (x : V) : Prop := (∃ n, x = .int n ∧ ¬ (2 ≤ n ∧ n ≤ 5)) ∨ (∃ b, x = .bl b) ∨ ∃ t, TyX K H x t ∧ PySem.W.kitOne K t (.type "int") = some false
theorem NotW.same {K : PySem.W.Frag} {H H' : Hp} {x : V} (h : NotW K H x) (s : Same H H') : NotW K H' x := by
  rcases h with h | h | ⟨t, h1, h2⟩
  · exact .inl h
  · exact .inr (.inl h)
  · exact .inr (.inr ⟨t, h1.mono s, h2⟩)
def joinAll (m : Nat) (css : List (List Int)) : List Int := css.foldl (List.zipWith max) (List.replicate m 0)
def fMax : V → V → V | .int a, .int b => .int (max a b) | _, _ => .non
theorem zipMax (ms ns : List Int) : (((ms.map V.int).zip (ns.map V.int)).map fun z => fMax z.1 z.2) = (List.zipWith max ms ns).map V.int := by
  induction ms generalizing ns with
  | nil => rfl
  | cons m ms ih =>
    cases ns with
    | nil => rfl
    | cons n ns => exact congrArg (V.int (max m n) :: ·) (ih ns)
theorem zip_mem {f : Int → Int → Int} {P : Int → Prop} {ms ns : List Int} (hf : ∀ a ∈ ms, ∀ b ∈ ns, P (f a b)) : ∀ n ∈ List.zipWith f ms ns, P n := by
  induction ms generalizing ns with
  | nil => intro n h; cases h
  | cons m ms ih =>
    cases ns with
    | nil => intro n h; cases h
    | cons k ns =>
      intro n h
      rcases List.mem_cons.mp h with rfl | h
      · exact hf _ List.mem_cons_self _ List.mem_cons_self
      · exact ih (fun a ha b hb => hf a (List.mem_cons_of_mem _ ha) b (List.mem_cons_of_mem _ hb)) n h
theorem fold_step {css : List (List Int)} {z : List Int} {i : Nat} (h : i < css.length) : (css.take (i + 1)).foldl (List.zipWith max) z = List.zipWith max ((css.take i).foldl (List.zipWith max) z) (css.getD i []) := by
  rw [List.take_succ, List.foldl_append, List.getElem?_eq_getElem h, List.getD_eq_getElem?_getD, List.getElem?_eq_getElem h]
  rfl
theorem ok_getD {m : Nat} {css : List (List Int)} {i : Nat} (ho : AllOk m css) (h : i < css.length) : (css.getD i []).length = m ∧ ∀ n ∈ css.getD i [], 0 ≤ n := by
  rw [List.getD_eq_getElem?_getD, List.getElem?_eq_getElem h]
  exact ho _ (List.getElem_mem h)
theorem fold_ok {m : Nat} {css : List (List Int)} (ho : AllOk m css) (i : Nat) (hi : i ≤ css.length) : ((css.take i).foldl (List.zipWith max) (List.replicate m 0)).length = m ∧ ∀ n ∈ (css.take i).foldl (List.zipWith max) (List.replicate m 0), (0 : Int) ≤ n := by
  induction i with
  | zero => exact ⟨by simp, fun n hn => by have := List.eq_of_mem_replicate hn; omega⟩
  | succ i ih =>
    obtain ⟨h1, h2⟩ := ih (by omega)
    obtain ⟨h3, h4⟩ := ok_getD ho (i := i) (by omega)
    rw [fold_step (by omega)]
    refine ⟨by rw [List.length_zipWith]; omega, zip_mem fun a ha b hb => ?_⟩
    have := h2 a ha
    have := h4 b hb
    omega
theorem AllOk.rev {m : Nat} {css : List (List Int)} (ho : AllOk m css) : AllOk m css.reverse := fun c hc => ho c (List.mem_reverse.mp hc)
theorem rep0 {n : Nat} : (List.replicate n [V.int 0]).flatten = (List.replicate n (0 : Int)).map V.int := by
  induction n with
  | zero => rfl
  | succ n ih => rw [List.replicate_succ, List.flatten_cons, ih]; rfl
theorem nn0 {n : Nat} : NN ((List.replicate n (0 : Int)).map V.int) := NN.of fun m hm => by
  have := List.eq_of_mem_replicate hm
  omega
theorem rep1 {n : Nat} : (List.replicate n [V.int 1]).flatten = (List.replicate n (1 : Int)).map V.int := by
  induction n with
  | zero => rfl
  | succ n ih => rw [List.replicate_succ, List.flatten_cons, ih]; rfl
theorem nn1 {n : Nat} : NN ((List.replicate n (1 : Int)).map V.int) := NN.of fun m hm => by
  have := List.eq_of_mem_replicate hm
  omega
/-- over a list or a tuple: these truths -/
theorem lc_bools {J : It} {xs : List V} {G : Hp → Prop} (w : Walk J xs.length G (YAt xs)) {i : Nat} {te : TE} {σ : L2.St} {H1 : Hp} {D : Addr} {Qd : Hp → Prop} (bs : List Bool) (hb : xs.length = bs.length) (hn : xs.length ≤ 100000) (hG : ∀ H', Same H1 H' → G H') (hD : H1 D = none)
    (he : ∀ (k : Nat) x H2 (R : VK), xs[k]? = some x → Same H1 H2 → (∀ H4, Same H2 H4 → R (.bl (bs.getD k false)) H4) → te ((wipe σ [i]).set i (some x)) H2 R)
    (hd : ∀ H', Same H1 H' → H' D = some (.lst (bs.map V.bl)) → Qd H') :
    ∃ W : Nat → Nat → Hp → Prop, (∃ m, W 0 m (upd H1 D (.lst []))) ∧ ∀ k m H, W k m H →
      (J.stop k H ∧ Qd H) ∨ (J.go k H ∧ ∃ Nx : Hp → Prop, (∀ H', Nx H' → ∃ m', m' < m ∧ W (k + 1) m' H') ∧ ∀ x H', J.yld k H x H' → gName i x (wipe σ [i]) H' fun σ2 H2 => wipe σ2 [i] = wipe σ [i] ∧ tYes σ2 H2 fun b H3 =>
        if b = true then te σ2 H3 fun y H4 => ∃ acc, H4 D = some (.lst acc) ∧ acc.length < sizeLine ∧ Nx (upd H4 D (.lst (acc ++ [y]))) else Nx H3) := by
  refine lc_grow w (bs.map V.bl) (by simp [hb]) hn hG hD ?_ hd (fun _ _ _ _ q h => q _ _ h)
  rintro k x H2 H' R hk s2 ⟨rfl, hx⟩ hR
  refine ⟨wipe_set, he k x H' R hx s2 fun H4 s4 => hR _ _ ?_ s4⟩
  rw [List.getElem?_map, List.getD_eq_getElem?_getD, List.getElem?_eq_getElem (by omega)]
  rfl
theorem CtAts {K : PySem.W.Frag} {C : Addr} {H : Hp} {m : Nat} {xs : List V} {css : List (List Int)} (hc : At2 (CtAt C H) xs css) (ho : AllOk m css) (h5 : m ≤ 5) : ItsB K C H m xs (List.replicate xs.length true) := by
  refine ⟨by simp, fun k x e => ?_⟩
  have hk := (List.getElem?_eq_some_iff.mp e).1
  obtain ⟨p, dx, t, e1, e2, e3⟩ := hc.2 k x e
  obtain ⟨h1, _⟩ := ok_getD ho (i := k) (by have := hc.1; omega)
  refine .inl ⟨p, dx, t, _, e1, e2, e3, by omega, ?_⟩
  rw [List.getD_eq_getElem?_getD, List.getElem?_eq_getElem (by simpa using hk), decide_eq_true h1]
  simp
theorem all_rep {n : Nat} : (List.replicate n true).all id = true := by
  induction n with
  | zero => rfl
  | succ n ih => simp
def tupOf (c : List Int) : PyData := .tuple (c.map PyData.int)
theorem DpTups {K : PySem.W.Frag} {H : Hp} {xs : List V} {css : List (List Int)} (h : At2 (TupAt H) xs css) : DpAll K H xs (css.map tupOf) := by
  induction xs generalizing css with
  | nil =>
    cases css with
    | nil => exact .nil
    | cons c css =>
      have := h.1
      simp at this
  | cons x xs ih =>
    cases css with
    | nil =>
      have := h.1
      simp at this
    | cons c css =>
      obtain ⟨⟨t, rfl, ht⟩, h2⟩ := h.tail
      exact .cons (.tup (SqT.of ht) DpInts) (ih h2)
theorem eqv_tups {css : List (List Int)} : PyData.eqvAll (css.map tupOf) (css.map tupOf) = true := by
  induction css with
  | nil => simp [PyData.eqvAll]
  | cons c css ih =>
    simp only [List.map_cons, PyData.eqvAll, ih, Bool.and_true]
    show PyData.eqvAll (c.map PyData.int) (c.map PyData.int) = true
    rw [eqv_ints]
    simp
theorem lay_tups {css : List (List Int)} : PyData.canLayAll0 (css.map tupOf) = true := by
  induction css with
  | nil => rfl
  | cons c css ih =>
    show (PyData.canLay0 (tupOf c) && PyData.canLayAll0 (css.map tupOf)) = true
    rw [ih, Bool.and_true]
    exact lay_ints
theorem depth_tups {css : List (List Int)} : PyData.depthAll (css.map tupOf) ≤ 2 := by
  induction css with
  | nil => exact Nat.zero_le _
  | cons c css ih =>
    show max (PyData.depth (tupOf c)) (PyData.depthAll (css.map tupOf)) ≤ 2
    have h1 : PyData.depth (tupOf c) = PyData.depthAll (c.map PyData.int) + 1 := rfl
    have := depth_ints (ns := c)
    omega
theorem sh_tups {css : List (List Int)} : SeqAt.shaped (.list (css.map tupOf)) = true := by
  show (PyData.canLayAll0 (css.map tupOf) && decide (PyData.depthAll (css.map tupOf) + 1 ≤ 64)) = true
  rw [lay_tups, Bool.true_and, decide_eq_true_eq]
  have := depth_tups (css := css)
  omega
/-- a tuple of these numbers that is not the thing at D -/
def TupD (D : Addr) (H : Hp) (x : V) (c : List Int) : Prop := ∃ t, x = .ref t ∧ t ≠ D ∧ H t = some (.tup (c.map V.int))
theorem TupD.same {D : Addr} {H H' : Hp} {x : V} {c : List Int} (h : TupD D H x c) (s : Same H H') : TupD D H' x c := by
  obtain ⟨p, e, n, h1⟩ := h
  exact ⟨p, e, n, s _ _ h1⟩
theorem TupD.upd {D : Addr} {H : Hp} {x : V} {c : List Int} {o : HO} (h : TupD D H x c) : TupD D (upd H D o) x c := by
  obtain ⟨p, e, n, h1⟩ := h
  exact ⟨p, e, n, (upd_ne n).trans h1⟩
theorem TupD.at {D : Addr} {H : Hp} {x : V} {c : List Int} (h : TupD D H x c) : TupAt H x c := by
  obtain ⟨p, e, n, h1⟩ := h
  exact ⟨p, e, h1⟩
/-- Counts of these numbers, of things other than D -/
def CtD (C D : Addr) (H : Hp) (y : V) (ns : List Int) : Prop := ∃ (x dx t : Addr), y = .ref x ∧ x ≠ D ∧ t ≠ D ∧ H x = some (.ins C dx [("_numbers", .ref t)]) ∧ H t = some (.tup (ns.map V.int))
theorem CtD.same {C D : Addr} {ns : List Int} {H H' : Hp} {y : V} (h : CtD C D H y ns) (s : Same H H') : CtD C D H' y ns := by
  obtain ⟨x, dx, t, e, n1, n2, h1, h2⟩ := h
  exact ⟨x, dx, t, e, n1, n2, s _ _ h1, s _ _ h2⟩
theorem CtD.upd {C D : Addr} {ns : List Int} {H : Hp} {y : V} {o : HO} (h : CtD C D H y ns) : CtD C D (upd H D o) y ns := by
  obtain ⟨x, dx, t, e, n1, n2, h1, h2⟩ := h
  exact ⟨x, dx, t, e, n1, n2, (upd_ne n1).trans h1, (upd_ne n2).trans h2⟩
theorem CtD.at {C D : Addr} {ns : List Int} {H : Hp} {y : V} (h : CtD C D H y ns) : CtAt C H y ns := by
  obtain ⟨x, dx, t, e, n1, n2, h1, h2⟩ := h
  exact ⟨x, dx, t, e, h1, h2⟩
theorem ItsB.app {K : PySem.W.Frag} {C : Addr} {H : Hp} {m : Nat} {xs ys : List V} {bs cs : List Bool} (h : ItsB K C H m xs bs) (h2 : ItsB K C H m ys cs) : ItsB K C H m (xs ++ ys) (bs ++ cs) := by
  refine ⟨by simp [h.1, h2.1], fun k x e => ?_⟩
  have hl := h.1
  rcases Nat.lt_or_ge k xs.length with hk | hk
  · rw [List.getElem?_append_left hk] at e
    rw [List.getD_eq_getElem?_getD, List.getElem?_append_left (by omega), ← List.getD_eq_getElem?_getD]
    exact h.2 k x e
  · rw [List.getElem?_append_right hk] at e
    rw [List.getD_eq_getElem?_getD, List.getElem?_append_right (by omega), ← List.getD_eq_getElem?_getD, ← hl]
    exact h2.2 _ x e
theorem ItsB.one {K : PySem.W.Frag} {C : Addr} {H : Hp} {m : Nat} {x : V} {b : Bool} (h : ItB K C H m x b) : ItsB K C H m [x] [b] := by
  refine ⟨rfl, fun k y e => ?_⟩
  cases k with
  | zero =>
    simp at e
    subst e
    exact h
  | succ k => simp at e
theorem ItsB.mem {K : PySem.W.Frag} {C : Addr} {H : Hp} {m : Nat} {xs : List V} (h : ∀ x ∈ xs, ItB K C H m x true) : ItsB K C H m xs (List.replicate xs.length true) := by
  refine ⟨by simp, fun k x e => ?_⟩
  have hk := (List.getElem?_eq_some_iff.mp e).1
  rw [List.getD_eq_getElem?_getD, List.getElem?_eq_getElem (by simpa using hk)]
  simpa using h x (List.mem_of_getElem? e)
theorem CtMem {K : PySem.W.Frag} {C : Addr} {H : Hp} {m : Nat} {xs : List V} {css : List (List Int)} (hc : At2 (CtAt C H) xs css) (ho : AllOk m css) (h5 : m ≤ 5) : ∀ x ∈ xs, ItB K C H m x true := by
  intro x hx
  obtain ⟨k, hk⟩ := List.mem_iff_getElem?.mp hx
  have h := (CtAts (K := K) hc ho h5).2 k x hk
  have hl := (List.getElem?_eq_some_iff.mp hk).1
  rw [List.getD_eq_getElem?_getD, List.getElem?_eq_getElem (by simpa using hl)] at h
  simpa using h
/-- what is no list and no tuple -/
def NotL (K : PySem.W.Frag) (H : Hp) (x : V) : Prop := ∃ t, TyX K H x t ∧ PySem.W.kitAny K t [.type "list", .type "tuple"] = some false ∧ PySem.W.kitOne K t (.type "list") = some false
theorem NotL.same {K : PySem.W.Frag} {H H' : Hp} {x : V} (h : NotL K H x) (s : Same H H') : NotL K H' x := by
  obtain ⟨t, h1, h2⟩ := h
  exact ⟨t, h1.mono s, h2⟩
theorem ItB.no {K : PySem.W.Frag} {C : Addr} {H : Hp} {m : Nat} {x : V} {t : Value} (h1 : TyX K H x t) (h2 : PySem.W.kitOne K t (.ref C) = some false) : ItB K C H m x false := .inr ⟨t, h1, h2, rfl⟩
theorem NotL.of {K : PySem.W.Frag} {H : Hp} {x : V} {t : Value} (h1 : TyX K H x t) (h2 : PySem.W.kitAny K t [.type "list", .type "tuple"] = some false) (h3 : PySem.W.kitOne K t (.type "list") = some false) : NotL K H x := ⟨t, h1, h2, h3⟩
theorem NotW.of {K : PySem.W.Frag} {H : Hp} {x : V} {t : Value} (h1 : TyX K H x t) (h2 : PySem.W.kitOne K t (.type "int") = some false) : NotW K H x := .inr (.inr ⟨t, h1, h2⟩)
theorem cutV_le {xs : List V} {lo hi : Option Int} : (cutV xs lo hi).length ≤ xs.length := by
  unfold cutV
  simp only [List.length_take, List.length_drop]
  omega
def sp_check_members (K : PySem.W.Frag) (CN : Addr) : Sp := fun vs H Q E => (∃ (m : Int), vs = [.int m] ∧ (2 ≤ m) ∧ (m ≤ 5) ∧ Q .non H) ∨
  (∃ (x : V), vs = [x] ∧ (NotW K H x) ∧ ∀ d, H d = none → E (.ref CN) (some d) (upd H d (.xd [("found", x)])))
theorem r_check_members_1 {K : PySem.W.Frag} {CN : Addr} {H : Hp} {Q : VK} {E : XK} {vv : List V} {m : Int} (ee : vv = [.int m]) (h2 : 2 ≤ m) (h5 : m ≤ 5) (k : Q .non H) : sp_check_members K CN vv H Q E := by
  subst ee
  exact .inl ⟨m, rfl, h2, h5, k⟩
theorem r_check_members_2 {K : PySem.W.Frag} {CN : Addr} {H : Hp} {Q : VK} {E : XK} {vv : List V} {x : V} (ee : vv = [x]) (hx : NotW K H x) (k : ∀ d, H d = none → E (.ref CN) (some d) (upd H d (.xd [("found", x)]))) : sp_check_members K CN vv H Q E := by
  subst ee
  exact .inr (⟨x, rfl, hx, k⟩)
def sp_all_joined (K : PySem.W.Frag) (C CN CC : Addr) : Sp := fun vs H Q E => (∃ (m : Int) (a : Addr) (xs : List V) (css : List (List Int)), vs = [.int m, .ref a] ∧ (2 ≤ m) ∧ (m ≤ 5) ∧ (LT H a xs) ∧ (At2 (CtAt C H) xs css) ∧ (AllOk m.toNat css) ∧ (css.length ≤ 2000) ∧ ∀ (r dz v : Addr) (H' : Hp), Same H H' → H' r = some (.ins C dz [("_numbers", .ref v)]) → H' v = some (.tup ((joinAll m.toNat css).map V.int)) → Q (.ref r) H') ∨
  (∃ (m : Int) (a : Addr) (xs : List V) (bs : List Bool), vs = [.int m, .ref a] ∧ (2 ≤ m) ∧ (m ≤ 5) ∧ (LT H a xs) ∧ (ItsB K C H m.toNat xs bs) ∧ (bs.all id = false) ∧ (xs.length ≤ 2000) ∧ ∀ (d : Addr) (H' : Hp), Same H H' → H' d = some (.xd [("found", .ref a)]) → E (.ref CC) (some d) H') ∨
  (∃ (m : Int) (x : V) (t : Value), vs = [.int m, x] ∧ (2 ≤ m) ∧ (m ≤ 5) ∧ (TyX K H x t) ∧ (PySem.W.kitAny K t [.type "list", .type "tuple"] = some false) ∧ ∀ (d : Addr) (H' : Hp), Same H H' → H' d = some (.xd [("found", x)]) → E (.ref CC) (some d) H') ∨
  (∃ (x y : V), vs = [x, y] ∧ (NotW K H x) ∧ ∀ d, H d = none → E (.ref CN) (some d) (upd H d (.xd [("found", x)])))
theorem r_all_joined_1 {K : PySem.W.Frag} {C CN CC : Addr} {H : Hp} {Q : VK} {E : XK} {vv : List V} {m : Int} {a : Addr} {xs : List V} {css : List (List Int)} (ee : vv = [.int m, .ref a]) (h2 : 2 ≤ m) (h5 : m ≤ 5) (ha : LT H a xs) (hc : At2 (CtAt C H) xs css) (ho : AllOk m.toNat css) (hl : css.length ≤ 2000) (k : ∀ (r dz v : Addr) (H' : Hp), Same H H' → H' r = some (.ins C dz [("_numbers", .ref v)]) → H' v = some (.tup ((joinAll m.toNat css).map V.int)) → Q (.ref r) H') : sp_all_joined K C CN CC vv H Q E := by
  subst ee
  exact .inl ⟨m, a, xs, css, rfl, h2, h5, ha, hc, ho, hl, k⟩
theorem r_all_joined_2 {K : PySem.W.Frag} {C CN CC : Addr} {H : Hp} {Q : VK} {E : XK} {vv : List V} {m : Int} {a : Addr} {xs : List V} {bs : List Bool} (ee : vv = [.int m, .ref a]) (h2 : 2 ≤ m) (h5 : m ≤ 5) (ha : LT H a xs) (hb : ItsB K C H m.toNat xs bs) (hx : bs.all id = false) (hl : xs.length ≤ 2000) (k : ∀ (d : Addr) (H' : Hp), Same H H' → H' d = some (.xd [("found", .ref a)]) → E (.ref CC) (some d) H') : sp_all_joined K C CN CC vv H Q E := by
  subst ee
  exact .inr (.inl ⟨m, a, xs, bs, rfl, h2, h5, ha, hb, hx, hl, k⟩)
theorem r_all_joined_3 {K : PySem.W.Frag} {C CN CC : Addr} {H : Hp} {Q : VK} {E : XK} {vv : List V} {m : Int} {x : V} {t : Value} (ee : vv = [.int m, x]) (h2 : 2 ≤ m) (h5 : m ≤ 5) (hx : TyX K H x t) (hk : PySem.W.kitAny K t [.type "list", .type "tuple"] = some false) (k : ∀ (d : Addr) (H' : Hp), Same H H' → H' d = some (.xd [("found", x)]) → E (.ref CC) (some d) H') : sp_all_joined K C CN CC vv H Q E := by
  subst ee
  exact .inr (.inr (.inl ⟨m, x, t, rfl, h2, h5, hx, hk, k⟩))
theorem r_all_joined_4 {K : PySem.W.Frag} {C CN CC : Addr} {H : Hp} {Q : VK} {E : XK} {vv : List V} {x y : V} (ee : vv = [x, y]) (hx : NotW K H x) (k : ∀ d, H d = none → E (.ref CN) (some d) (upd H d (.xd [("found", x)]))) : sp_all_joined K C CN CC vv H Q E := by
  subst ee
  exact .inr (.inr (.inr (⟨x, y, rfl, hx, k⟩)))
def sp_law_cell_at (K : PySem.W.Frag) : Sp := fun vs H Q E => (∃ (a : Addr) (ns : List Int) (n : Int), vs = [.ref a, .int n] ∧ (SqL K H a (ns.map V.int)) ∧ (0 ≤ n) ∧ (ns.length ≤ 63) ∧ ∀ c : Int, Q (.int c) H)
theorem r_law_cell_at {K : PySem.W.Frag} {H : Hp} {Q : VK} {E : XK} {vv : List V} {a : Addr} {ns : List Int} {n : Int} (ee : vv = [.ref a, .int n]) (hs : SqL K H a (ns.map V.int)) (h0 : 0 ≤ n) (hl : ns.length ≤ 63) (k : ∀ c : Int, Q (.int c) H) : sp_law_cell_at K vv H Q E := by
  subst ee
  exact ⟨a, ns, n, rfl, hs, h0, hl, k⟩
def sp_law_rows (K : PySem.W.Frag) : Sp := fun vs H Q E => (∃ (a : Addr) (ns : List Int) (m n : Int), vs = [.ref a, .int m, .int n] ∧ (SqL K H a (ns.map V.int)) ∧ (ns.length ≤ 63) ∧ (2 ≤ m) ∧ (m ≤ 5) ∧ (0 ≤ n) ∧ (n ≤ 500) ∧ ∀ (R : Addr) (rs : List V) (css : List (List Int)) (H' : Hp), Same H H' → H' R = some (.lst rs) → At2 (RowAt H') rs css → AllOk m.toNat css → css.length = n.toNat → Q (.ref R) H')
theorem r_law_rows {K : PySem.W.Frag} {H : Hp} {Q : VK} {E : XK} {vv : List V} {a : Addr} {ns : List Int} {m n : Int} (ee : vv = [.ref a, .int m, .int n]) (hs : SqL K H a (ns.map V.int)) (hl : ns.length ≤ 63) (h2 : 2 ≤ m) (h5 : m ≤ 5) (h0 : 0 ≤ n) (hn : n ≤ 500) (k : ∀ (R : Addr) (rs : List V) (css : List (List Int)) (H' : Hp), Same H H' → H' R = some (.lst rs) → At2 (RowAt H') rs css → AllOk m.toNat css → css.length = n.toNat → Q (.ref R) H') : sp_law_rows K vv H Q E := by
  subst ee
  exact ⟨a, ns, m, n, rfl, hs, hl, h2, h5, h0, hn, k⟩
def sp_law_first (K : PySem.W.Frag) (C : Addr) : Sp := fun vs H Q E => (∃ (m : Int) (a : Addr) (xs : List V) (bs : List Bool), vs = [.int m, .ref a] ∧ (2 ≤ m) ∧ (m ≤ 5) ∧ (H a = some (.lst xs)) ∧ (ItsB K C H m.toNat xs bs) ∧ (bs.all id = false) ∧ (xs.length ≤ 2000) ∧ ∀ (r : Addr) (H' : Hp), Fr1 a H H' → H' a = some (.lst (xs ++ [.str "more"])) → H' r = some (.tup [.str "counts", .ref a]) → Q (.ref r) H') ∨
  (∃ (m : Int) (a : Addr) (xs : List V) (bs : List Bool), vs = [.int m, .ref a] ∧ (2 ≤ m) ∧ (m ≤ 5) ∧ (H a = some (.tup xs)) ∧ (ItsB K C H m.toNat xs bs) ∧ (bs.all id = false) ∧ (xs.length ≤ 2000) ∧ ∀ (r : Addr) (H' : Hp), Same H H' → H' r = some (.tup [.str "counts", .ref a]) → Q (.ref r) H') ∨
  (∃ (m : Int) (x : V) (t : Value), vs = [.int m, x] ∧ (2 ≤ m) ∧ (m ≤ 5) ∧ (TyX K H x t) ∧ (PySem.W.kitAny K t [.type "list", .type "tuple"] = some false) ∧ (PySem.W.kitOne K t (.type "list") = some false) ∧ ∀ (r : Addr) (H' : Hp), Same H H' → H' r = some (.tup [.str "counts", x]) → Q (.ref r) H') ∨
  (∃ (x y : V) (t : Value) (b : Bool), vs = [x, y] ∧ (NotW K H x) ∧ (TyX K H y t) ∧ (PySem.W.kitOne K t (.type "list") = some b) ∧ ∀ (r : Addr) (H' : Hp), Same H H' → H' r = some (.tup [.str "number", x]) → Q (.ref r) H')
theorem r_law_first_1 {K : PySem.W.Frag} {C : Addr} {H : Hp} {Q : VK} {E : XK} {vv : List V} {m : Int} {a : Addr} {xs : List V} {bs : List Bool} (ee : vv = [.int m, .ref a]) (h2 : 2 ≤ m) (h5 : m ≤ 5) (ha : H a = some (.lst xs)) (hb : ItsB K C H m.toNat xs bs) (hx : bs.all id = false) (hl : xs.length ≤ 2000) (k : ∀ (r : Addr) (H' : Hp), Fr1 a H H' → H' a = some (.lst (xs ++ [.str "more"])) → H' r = some (.tup [.str "counts", .ref a]) → Q (.ref r) H') : sp_law_first K C vv H Q E := by
  subst ee
  exact .inl ⟨m, a, xs, bs, rfl, h2, h5, ha, hb, hx, hl, k⟩
theorem r_law_first_2 {K : PySem.W.Frag} {C : Addr} {H : Hp} {Q : VK} {E : XK} {vv : List V} {m : Int} {a : Addr} {xs : List V} {bs : List Bool} (ee : vv = [.int m, .ref a]) (h2 : 2 ≤ m) (h5 : m ≤ 5) (ha : H a = some (.tup xs)) (hb : ItsB K C H m.toNat xs bs) (hx : bs.all id = false) (hl : xs.length ≤ 2000) (k : ∀ (r : Addr) (H' : Hp), Same H H' → H' r = some (.tup [.str "counts", .ref a]) → Q (.ref r) H') : sp_law_first K C vv H Q E := by
  subst ee
  exact .inr (.inl ⟨m, a, xs, bs, rfl, h2, h5, ha, hb, hx, hl, k⟩)
theorem r_law_first_3 {K : PySem.W.Frag} {C : Addr} {H : Hp} {Q : VK} {E : XK} {vv : List V} {m : Int} {x : V} {t : Value} (ee : vv = [.int m, x]) (h2 : 2 ≤ m) (h5 : m ≤ 5) (hx : TyX K H x t) (hk : PySem.W.kitAny K t [.type "list", .type "tuple"] = some false) (hj : PySem.W.kitOne K t (.type "list") = some false) (k : ∀ (r : Addr) (H' : Hp), Same H H' → H' r = some (.tup [.str "counts", x]) → Q (.ref r) H') : sp_law_first K C vv H Q E := by
  subst ee
  exact .inr (.inr (.inl ⟨m, x, t, rfl, h2, h5, hx, hk, hj, k⟩))
theorem r_law_first_4 {K : PySem.W.Frag} {C : Addr} {H : Hp} {Q : VK} {E : XK} {vv : List V} {x y : V} {t : Value} {b : Bool} (ee : vv = [x, y]) (hx : NotW K H x) (ht : TyX K H y t) (hk : PySem.W.kitOne K t (.type "list") = some b) (k : ∀ (r : Addr) (H' : Hp), Same H H' → H' r = some (.tup [.str "number", x]) → Q (.ref r) H') : sp_law_first K C vv H Q E := by
  subst ee
  exact .inr (.inr (.inr (⟨x, y, t, b, rfl, hx, ht, hk, k⟩)))
def sp_law_right (K : PySem.W.Frag) (C : Addr) : Sp := fun vs H Q E => (∃ (m : Int) (R a : Addr) (rs xs : List V) (css : List (List Int)), vs = [.int m, .ref R, .ref a] ∧ (2 ≤ m) ∧ (m ≤ 5) ∧ (H R = some (.lst rs)) ∧ (At2 (RowAt H) rs css) ∧ (LT H a xs) ∧ (At2 (CtAt C H) xs css) ∧ (AllOk m.toNat css) ∧ (css.length ≤ 2000) ∧ ∀ H', Same H H' → Q (.bl true) H')
theorem r_law_right {K : PySem.W.Frag} {C : Addr} {H : Hp} {Q : VK} {E : XK} {vv : List V} {m : Int} {R a : Addr} {rs xs : List V} {css : List (List Int)} (ee : vv = [.int m, .ref R, .ref a]) (h2 : 2 ≤ m) (h5 : m ≤ 5) (hr : H R = some (.lst rs)) (hrs : At2 (RowAt H) rs css) (ha : LT H a xs) (hc : At2 (CtAt C H) xs css) (ho : AllOk m.toNat css) (hl : css.length ≤ 2000) (k : ∀ H', Same H H' → Q (.bl true) H') : sp_law_right K C vv H Q E := by
  subst ee
  exact ⟨m, R, a, rs, xs, css, rfl, h2, h5, hr, hrs, ha, hc, ho, hl, k⟩
def sp_law (K : PySem.W.Frag) : Sp := fun vs H Q E => (∃ (a : Addr) (ns : List Int), vs = [.ref a] ∧ (SqL K H a (ns.map V.int)) ∧ (ns.length ≤ 63) ∧ ∀ H', Q (.bl true) H')
theorem r_law {K : PySem.W.Frag} {H : Hp} {Q : VK} {E : XK} {vv : List V} {a : Addr} {ns : List Int} (ee : vv = [.ref a]) (hs : SqL K H a (ns.map V.int)) (hl : ns.length ≤ 63) (k : ∀ H', Q (.bl true) H') : sp_law K vv H Q E := by
  subst ee
  exact ⟨a, ns, rfl, hs, hl, k⟩

set_option hygiene false
local macro_rules | `(tactic| walk_at "xm1") => `(tactic| first | fail | exact PySem.W.exm_ref (T.exC_HallError) (T.hdx_HallError) (T.ty_HallError) (T.sb_NoCounts_HallError) | exact PySem.W.exm_ref (T.exC_NoCounts) (T.hdx_NoCounts) (T.ty_NoCounts) (T.sb_NoCounts_NoCounts) | exact PySem.W.exm_ref (T.exC_NoNumber) (T.hdx_NoNumber) (T.ty_NoNumber) (T.sb_NoCounts_NoNumber) | exact PySem.W.exm_ref (T.exC_HallError) (T.hdx_HallError) (T.ty_HallError) (T.sb_NoNumber_HallError) | exact PySem.W.exm_ref (T.exC_NoCounts) (T.hdx_NoCounts) (T.ty_NoCounts) (T.sb_NoNumber_NoCounts) | exact PySem.W.exm_ref (T.exC_NoNumber) (T.hdx_NoNumber) (T.ty_NoNumber) (T.sb_NoNumber_NoNumber) | exact PySem.W.exm_ref (T.exC_HallError) (T.hdx_HallError) (T.ty_HallError) (T.sb_Unlike_HallError) | exact PySem.W.exm_ref (T.exC_NoCounts) (T.hdx_NoCounts) (T.ty_NoCounts) (T.sb_Unlike_NoCounts) | exact PySem.W.exm_ref (T.exC_NoNumber) (T.hdx_NoNumber) (T.ty_NoNumber) (T.sb_Unlike_NoNumber) | fail)
local macro_rules | `(tactic| walk_at "xf") => `(tactic| first | fail | exact T.xf_NoCounts | exact T.xf_NoNumber | exact T.xf_Unlike | fail)
local macro_rules | `(tactic| walk_at "xc") => `(tactic| first | fail | exact T.xc_NoCounts | exact T.xc_NoNumber | exact T.xc_Unlike | fail)
local macro_rules | `(tactic| walk_at "xn") => `(tactic| first | fail | exact T.nf_NoCounts | exact T.nf_NoNumber | exact T.nf_Unlike | fail)
local macro_rules | `(tactic| walk_at "tya") => `(tactic| first | fail | ((refine' .base (.ins ?h1 (T.c_Counts) (T.ha_Counts) (T.hn) (T.htk) (T.hm_Counts))); (case h1 => assumption)) | fail)
local macro_rules | `(tactic| walk_at "tyo") => `(tactic| first | fail | ((refine' .base (.ins ?h1 (T.c_Counts) (T.ha_Counts) (T.hn) (T.htk) (T.hm_Counts))); (case h1 => walk_at "lk")) | fail)
local macro_rules | `(tactic| walk_at "kio") => `(tactic| first | fail | exact kit_sub (by decide +kernel) (T.ki_Counts) | exact kit_sub (by decide +kernel) (T.kl_Counts) | exact kit_sub (by decide +kernel) (T.kt_Counts) | exact kit_ref (T.hdx_HallError) (T.ty_HallError) (T.ss_HallError) (T.sb_NoCounts_HallError) | exact kit_ref (T.hdx_NoCounts) (T.ty_NoCounts) (T.ss_NoCounts) (T.sb_NoCounts_NoCounts) | exact kit_ref (T.hdx_NoNumber) (T.ty_NoNumber) (T.ss_NoNumber) (T.sb_NoCounts_NoNumber) | exact kit_ref (T.hdx_HallError) (T.ty_HallError) (T.ss_HallError) (T.sb_NoNumber_HallError) | exact kit_ref (T.hdx_NoCounts) (T.ty_NoCounts) (T.ss_NoCounts) (T.sb_NoNumber_NoCounts) | exact kit_ref (T.hdx_NoNumber) (T.ty_NoNumber) (T.ss_NoNumber) (T.sb_NoNumber_NoNumber) | exact kit_ref (T.hdx_HallError) (T.ty_HallError) (T.ss_HallError) (T.sb_Unlike_HallError) | exact kit_ref (T.hdx_NoCounts) (T.ty_NoCounts) (T.ss_NoCounts) (T.sb_Unlike_NoCounts) | exact kit_ref (T.hdx_NoNumber) (T.ty_NoNumber) (T.ss_NoNumber) (T.sb_Unlike_NoNumber) | with_reducible exact kit_self | exact kit_tyref (T.hdx_Counts) (T.ty_Counts) (T.nt_NoneType_Counts) | exact kit_tyref (T.hdx_Counts) (T.ty_Counts) (T.nt_bool_Counts) | exact kit_tyref (T.hdx_Counts) (T.ty_Counts) (T.nt_int_Counts) | exact kit_tyref (T.hdx_Counts) (T.ty_Counts) (T.nt_str_Counts) | exact kit_tyref (T.hdx_Counts) (T.ty_Counts) (T.nt_list_Counts) | exact kit_tyref (T.hdx_Counts) (T.ty_Counts) (T.nt_tuple_Counts) | exact kit_tyref (T.hdx_Counts) (T.ty_Counts) (T.nt_dict_Counts) | fail)
local macro_rules | `(tactic| walk_at "cls") => `(tactic| first | assumption | exact T.c_Counts | fail)
local macro_rules | `(tactic| walk_at "noa") => `(tactic| first | assumption | exact T.n_Counts__numbers | fail)
local macro_rules | `(tactic| walk_at "rc") => `(tactic| first
  | fail 
  | ((with_reducible refine' r_is_whole_1 ?ze  ?_); (case ze => exact rfl))
  | ((with_reducible refine' r_is_whole_2 ?ze  ?_); (case ze => exact rfl))
  | ((with_reducible refine' r_is_whole_3 ?ze  ?_); (case ze => exact rfl))
  | ((with_reducible refine' r_is_whole_4 ?ze ?z0 ?z1 ?_); (case ze => exact rfl); (case z0 => walk_at "tyx"); (case z1 => walk_at "kit"))
  | ((with_reducible refine' r_is_list ?ze ?z0 ?z1 ?_); (case ze => exact rfl); (case z0 => walk_at "tyx"); (case z1 => walk_at "kia"))
  | ((with_reducible refine' r_Counts_init ?ze ?z0 ?z1 ?z2 ?z3 ?z4 ?_); (case ze => exact rfl); (case z0 => walk_at "lk"); (case z1 => walk_at "lk"); (case z2 => walk_at "sd"); (case z3 => walk_at "sd"); (case z4 => walk_at "nn"))
  | ((with_reducible refine' r_Counts_len ?ze ?z0 ?z1 ?_); (case ze => exact rfl); (case z0 => walk_at "lk"); (case z1 => walk_at "lk"))
  | ((with_reducible refine' r_Counts_told ?ze ?z0 ?_); (case ze => exact rfl); (case z0 => walk_at "lk"))
  | ((with_reducible refine' r_Counts_check_like_1 ?ze ?z0 ?z1 ?z2 ?z3 ?z4 ?z5 ?_); (case ze => exact rfl); (case z0 => walk_at "lk"); (case z1 => walk_at "lk"); (case z2 => walk_at "lk"); (case z3 => walk_at "lk"); (case z4 => walk_at "sd"); (case z5 => walk_at "sd"))
  | ((with_reducible refine' r_Counts_check_like_2 ?ze ?z0 ?z1 ?z2 ?z3 ?z4 ?z5 ?z6 ?_); (case ze => exact rfl); (case z0 => walk_at "lk"); (case z1 => walk_at "lk"); (case z2 => walk_at "lk"); (case z3 => walk_at "lk"); (case z4 => walk_at "sd"); (case z5 => walk_at "sd"); (case z6 => walk_at "sd"))
  | ((with_reducible refine' r_Counts_check_like_3 ?ze ?z0 ?z1 ?z2 ?_); (case ze => exact rfl); (case z0 => walk_at "lk"); (case z1 => walk_at "tyx"); (case z2 => walk_at "kit"))
  | ((with_reducible refine' r_Counts_joined_1 ?ze ?z0 ?z1 ?z2 ?z3 ?z4 ?z5 ?z6 ?z7 ?z8 ?_); (case ze => exact rfl); (case z0 => walk_at "lk"); (case z1 => walk_at "lk"); (case z2 => walk_at "lk"); (case z3 => walk_at "lk"); (case z4 => walk_at "sd"); (case z5 => walk_at "sd"); (case z6 => walk_at "sd"); (case z7 => walk_at "as"); (case z8 => walk_at "as"))
  | ((with_reducible refine' r_Counts_joined_2 ?ze ?z0 ?z1 ?z2 ?z3 ?z4 ?z5 ?z6 ?_); (case ze => exact rfl); (case z0 => walk_at "lk"); (case z1 => walk_at "lk"); (case z2 => walk_at "lk"); (case z3 => walk_at "lk"); (case z4 => walk_at "sd"); (case z5 => walk_at "sd"); (case z6 => walk_at "sd"))
  | ((with_reducible refine' r_Counts_joined_3 ?ze ?z0 ?z1 ?z2 ?_); (case ze => exact rfl); (case z0 => walk_at "lk"); (case z1 => walk_at "tyx"); (case z2 => walk_at "kit"))
  | ((with_reducible refine' r_law_pool ?ze  ?_); (case ze => exact rfl))
  | ((with_reducible refine' r_law_take ?ze ?z0 ?z1 ?z2 ?_); (case ze => exact rfl); (case z0 => walk_at "lk"); (case z1 => walk_at "sd"); (case z2 => walk_at "sd"))
  | ((with_reducible refine' r_law_numbers ?ze ?z0 ?z1 ?z2 ?z3 ?_); (case ze => exact rfl); (case z0 => walk_at "lk"); (case z1 => walk_at "sd"); (case z2 => walk_at "sd"); (case z3 => walk_at "sd"))
  | ((with_reducible refine' r_check_members_1 ?ze ?z0 ?z1 ?_); (case ze => exact rfl); (case z0 => walk_at "sd"); (case z1 => walk_at "sd"))
  | ((with_reducible refine' r_check_members_2 ?ze ?z0 ?_); (case ze => exact rfl); (case z0 => walk_at "sd"))
  | ((with_reducible refine' r_all_joined_1 ?ze ?z0 ?z1 ?z2 ?z3 ?z4 ?z5 ?_); (case ze => exact rfl); (case z0 => walk_at "sd"); (case z1 => walk_at "sd"); (case z2 => walk_at "sd"); (case z3 => walk_at "sd"); (case z4 => walk_at "sd"); (case z5 => walk_at "sd"))
  | ((with_reducible refine' r_all_joined_2 ?ze ?z0 ?z1 ?z2 ?z3 ?z4 ?z5 ?_); (case ze => exact rfl); (case z0 => walk_at "sd"); (case z1 => walk_at "sd"); (case z2 => walk_at "sd"); (case z3 => walk_at "sd"); (case z4 => walk_at "sd"); (case z5 => walk_at "sd"))
  | ((with_reducible refine' r_all_joined_3 ?ze ?z0 ?z1 ?z2 ?z3 ?_); (case ze => exact rfl); (case z0 => walk_at "sd"); (case z1 => walk_at "sd"); (case z2 => walk_at "tyx"); (case z3 => walk_at "kia"))
  | ((with_reducible refine' r_all_joined_4 ?ze ?z0 ?_); (case ze => exact rfl); (case z0 => walk_at "sd"))
  | ((with_reducible refine' r_law_cell_at ?ze ?z0 ?z1 ?z2 ?_); (case ze => exact rfl); (case z0 => walk_at "sq"); (case z1 => walk_at "sd"); (case z2 => walk_at "sd"))
  | ((with_reducible refine' r_law_rows ?ze ?z0 ?z1 ?z2 ?z3 ?z4 ?z5 ?_); (case ze => exact rfl); (case z0 => walk_at "sq"); (case z1 => walk_at "sd"); (case z2 => walk_at "sd"); (case z3 => walk_at "sd"); (case z4 => walk_at "sd"); (case z5 => walk_at "sd"))
  | ((with_reducible refine' r_law_first_1 ?ze ?z0 ?z1 ?z2 ?z3 ?z4 ?z5 ?_); (case ze => exact rfl); (case z0 => walk_at "sd"); (case z1 => walk_at "sd"); (case z2 => walk_at "lk"); (case z3 => walk_at "sd"); (case z4 => walk_at "sd"); (case z5 => walk_at "sd"))
  | ((with_reducible refine' r_law_first_2 ?ze ?z0 ?z1 ?z2 ?z3 ?z4 ?z5 ?_); (case ze => exact rfl); (case z0 => walk_at "sd"); (case z1 => walk_at "sd"); (case z2 => walk_at "lk"); (case z3 => walk_at "sd"); (case z4 => walk_at "sd"); (case z5 => walk_at "sd"))
  | ((with_reducible refine' r_law_first_3 ?ze ?z0 ?z1 ?z2 ?z3 ?z4 ?_); (case ze => exact rfl); (case z0 => walk_at "sd"); (case z1 => walk_at "sd"); (case z2 => walk_at "tyx"); (case z3 => walk_at "kia"); (case z4 => walk_at "kit"))
  | ((with_reducible refine' r_law_first_4 ?ze ?z0 ?z1 ?z2 ?_); (case ze => exact rfl); (case z0 => walk_at "sd"); (case z1 => walk_at "tyx"); (case z2 => walk_at "kit"))
  | ((with_reducible refine' r_law_right ?ze ?z0 ?z1 ?z2 ?z3 ?z4 ?z5 ?z6 ?z7 ?_); (case ze => exact rfl); (case z0 => walk_at "sd"); (case z1 => walk_at "sd"); (case z2 => walk_at "lk"); (case z3 => walk_at "sd"); (case z4 => walk_at "sd"); (case z5 => walk_at "sd"); (case z6 => walk_at "sd"); (case z7 => walk_at "sd"))
  | ((with_reducible refine' r_law ?ze ?z0 ?z1 ?_); (case ze => exact rfl); (case z0 => walk_at "sq"); (case z1 => walk_at "sd"))
  | fail)
set_option hygiene true
section
variable {P : Program} [PF P] {w : World} {K : PySem.W.Frag} {mg : Str → Option Value} {base : Heap}

theorem ok_is_whole (T : Tx K mg) : FnOk P w K mg base CX0 1 T.f_is_whole T.d_is_whole ["thing", "low", "high"] (sp_is_whole K) := by
  refine T.F_is_whole.ok sc_is_whole (fun vs H Q E h => ?_) (fun cdv A outer s H vs Q E hr h => ?_)
  · rcases h with ⟨n, a, rfl, k⟩ | ⟨n, a, b, rfl, k⟩ | ⟨c, y, z, rfl, k⟩ | ⟨x, y, z, t, rfl, ht, hk, k⟩
    all_goals rfl
  · have hu := hu_of hr
    refine ⟨_, (pss_cons (ps_if (PW.pt (pw_or (pt_not (pt_val (pe_callB (id := "isinstance") (kx_isi (K := K) rfl) (by rfl) T.z_isinstance (by decide +kernel) (pa_cons (pv 0) (pa_cons (pe_bltn (v := .ty "int") (u := .type "int") (by rfl) T.z_int (by decide +kernel) rfl) (pa_nil)))))) (pw_or1 (pt_val (pe_callB (id := "isinstance") (kx_isi (K := K) rfl) (by rfl) T.z_isinstance (by decide +kernel) (pa_cons (pv 0) (pa_cons (pe_bltn (v := .ty "bool") (u := .type "bool") (by rfl) T.z_bool (by decide +kernel) rfl) (pa_nil))))))))
      (pss_one (ps_ret pe_bl)) pss_nil)
      (pss_one (ps_ret (pe_and (pe_cmpR op_le (pv 1) (pv 0) (nomark _)) (pe_one (pe_or (pe_cmpR op_isNon (pv 2) pe_non (nomark _)) (pe_one (pe_cmpR op_le (pv 0) (pv 2) (nomark _))))))))), ?_⟩
    rcases h with ⟨n, a, rfl, k⟩ | ⟨n, a, b, rfl, k⟩ | ⟨c, y, z, rfl, k⟩ | ⟨x, y, z, t, rfl, ht, hk, k⟩
    · walk_at "rdx"
      all_goals exact R_of k (by walk_at "sv")
    · walk_at "rdx"
      all_goals exact R_of k (by walk_at "sv")
    · walk_at "rdx"
      exact k
    · walk_at "rdx"
      exact k
theorem ok_is_list (T : Tx K mg) : FnOk P w K mg base CX0 1 T.f_is_list T.d_is_list ["thing"] (sp_is_list K) := by
  refine T.F_is_list.ok sc_is_list (fun vs H Q E h => ?_) (fun cdv A outer s H vs Q E hr h => ?_)
  · rcases h with ⟨x, t, b, rfl, ht, hk, k⟩
    all_goals rfl
  · have hu := hu_of hr
    refine ⟨_, (pss_one (ps_ret (pe_callB (id := "isinstance") (kx_isiT (K := K) rfl) (by rfl) T.z_isinstance (by decide +kernel) (pa_cons (pv 0) (pa_cons (pe_tup (pa_cons (pe_bltn (v := .ty "list") (u := .type "list") (by rfl) T.z_list (by decide +kernel) rfl) (pa_cons (pe_bltn (v := .ty "tuple") (u := .type "tuple") (by rfl) T.z_tuple (by decide +kernel) rfl) (pa_nil)))) (pa_nil)))))), ?_⟩
    rcases h with ⟨x, t, b, rfl, ht, hk, k⟩
    (repeat walk_at "rd0")
    intro q hq
    with_reducible refine q_nil ?_
    refine q_isiT (us := [.type "list", .type "tuple"]) upd_same (.cons (.ty _) (.cons (.ty _) .nil)) (TyX.mono ht (Same.snew (Same.refl H) hq)) hk ?_
    exact k _ (Same.snew (Same.refl H) hq)
theorem ok_Counts_init (T : Tx K mg) : FnOk P w K mg base CX0 3 T.f_Counts_init T.d_Counts_init ["self", "numbers"] (sp_Counts_init K T.C_Counts) := by
  refine T.F_Counts_init.ok sc_Counts_init (fun vs H Q E h => ?_) (fun cdv A outer s H vs Q E hr h => ?_)
  · rcases h with ⟨p, dx, a, xs, rfl, hp, ha, hl, hl2, hn, k⟩
    all_goals rfl
  · have hu := hu_of hr
    refine ⟨_, (pss_cons (ps_if (PW.pt (pw_or (pt_not (pt_val (pe_call (ok_is_list (P := P) T) (hr.mono (by decide)) rfl T.m_is_list T.k_is_list T.b_is_list .nil pass0 (pa_cons (pv 1) (pa_nil))))) (pw_or1 (pt_not (pt_chain op_le op_le (pe_glob (v := .int 2) rfl T.g_LEAST_MEMBERS ⟨_, rfl⟩) (pe_callB (id := "len") (kx_len (K := K) rfl) (by rfl) T.z_len (by decide +kernel) (pa_cons (pv 1) (pa_nil))) (pe_glob (v := .int 5) rfl T.g_MOST_MEMBERS ⟨_, rfl⟩))))))
      (pss_one ps_never) pss_nil)
      (pss_cons (ps_if (pt_not (pt_val (pe_callB (id := "all") (kx_all (K := K) rfl rfl) (by rfl) T.z_all (by decide +kernel) (pa_cons (pe_lc (own := [("number", 2)]) (g := gName 2) (tt := tYes) rfl sc_Counts_init.nd (kpi_list (K := K) rfl (pv 1)) (blkOk_by (own := [("number", 2)]) (N := ["self", "numbers", "number"]) (sc := defScope s_Counts_init) (by decide +kernel)) (fun _ _ _ _ _ => (pg_name (i := 2) sc_Counts_init.nd rfl (Or.inl rfl))) (fun _ _ _ _ _ => pts_nil) (fun _ _ _ _ _ => (pe_call (ok_is_whole (P := P) T) (hr.mono (by decide)) rfl T.m_is_whole T.k_is_whole T.b_is_whole_2 T.v_is_whole_2 pass0 (pa_cons (pv 2) (pa_cons pe_int (pa_nil)))))) (pa_nil)))))
      (pss_one ps_never) pss_nil)
      (pss_one (ps_fld (pv 0) (pe_callTy (T := "tuple") (kx_tuple (K := K) rfl) (by rfl) T.z_tuple (by decide +kernel) (pa_cons (pv 1) (pa_nil))) rfl)))), ?_⟩
    rcases h with ⟨p, dx, a, xs, rfl, hp, ha, hl, hl2, hn, k⟩
    walk_at "rdx"
    refine lc_itemsB (fun _ => true) (by walk_at "sq") (by omega) (by assumption) (fun x hx H2 R s2 hR => ?_) (fun H2 s2 e => ?_)
    · obtain ⟨n, rfl, h0⟩ := hn x hx
      walk_at "rd"
      exact R_of (hR H2 (Same.refl H2)) (by rw [decide_eq_true h0])
    · walk_at "rd"
      refine q_ifs (fun _ => ?_) (fun hf => absurd hf (by simp))
      walk_at "rd"
      exact k _ _ (fun b o hb e => by walk_at "lk") upd_same (by walk_at "lk")
theorem ok_Counts_len (T : Tx K mg) : FnOk P w K mg base CX0 1 T.f_Counts_len T.d_Counts_len ["self"] (sp_Counts_len K T.C_Counts) := by
  refine T.F_Counts_len.ok sc_Counts_len (fun vs H Q E h => ?_) (fun cdv A outer s H vs Q E hr h => ?_)
  · rcases h with ⟨p, dx, t, xs, rfl, hp, ht, k⟩
    all_goals rfl
  · have hu := hu_of hr
    refine ⟨_, (pss_one (ps_ret (pe_callB (id := "len") (kx_len (K := K) rfl) (by rfl) T.z_len (by decide +kernel) (pa_cons (kp_fld (K := K) rfl (pv 0) rfl) (pa_nil))))), ?_⟩
    rcases h with ⟨p, dx, t, xs, rfl, hp, ht, k⟩
    walk_at "rd"
    exact k
theorem ok_Counts_told (T : Tx K mg) : FnOk P w K mg base CX0 1 T.f_Counts_told T.d_Counts_told ["self"] (sp_Counts_told K T.C_Counts) := by
  refine T.F_Counts_told.ok sc_Counts_told (fun vs H Q E h => ?_) (fun cdv A outer s H vs Q E hr h => ?_)
  · rcases h with ⟨p, dx, t, rfl, hp, k⟩
    all_goals rfl
  · have hu := hu_of hr
    refine ⟨_, (pss_one (ps_ret (kp_fld (K := K) rfl (pv 0) rfl))), ?_⟩
    rcases h with ⟨p, dx, t, rfl, hp, k⟩
    walk_at "rd"
    exact k
theorem ok_Counts_check_like (T : Tx K mg) : FnOk P w K mg base (L2.CX P w) 3 T.f_Counts_check_like T.d_Counts_check_like ["self", "other"] (sp_Counts_check_like K T.C_Counts T.C_NoCounts T.C_Unlike) := by
  refine T.F_Counts_check_like.okX sc_Counts_check_like (fun vs H Q E h => ?_) (fun cdv A outer s H vs Q E hr h => ?_)
  · rcases h with ⟨p, dx, t, q, dy, u, ms, ns, rfl, hp, ht, hq, hu, hl, hs, k⟩ | ⟨p, dx, t, q, dy, u, ms, ns, rfl, hp, ht, hq, hu, hl, hs, hs2, k⟩ | ⟨p, dx, t, x, ty, rfl, hp, hx, hk, k⟩
    all_goals rfl
  · have hu := hu_of hr
    refine ⟨_, (pss_cons (ps_if (pt_not (pt_val (pe_callB (id := "isinstance") (kx_isi (K := K) rfl) (by rfl) T.z_isinstance (by decide +kernel) (pa_cons (pv 1) (pa_cons (pe_glob (v := .ref T.C_Counts) rfl T.g_Counts rfl) (pa_nil))))))
      (pss_one (ps_raiseX rfl (takes_of rfl rfl rfl rfl) ‹PF P› T.ox_NoCounts T.z_super (hr.mono (by decide)) rfl T.g_NoCounts (pv 1))) pss_nil)
      (pss_one (ps_if (pt_cmpR op_ne (pe_callB (id := "len") (call_lenO rfl T.mt_Counts_len.at_ T.mt_Counts_len.fn (ok_Counts_len (P := P) T) (hr.mono (by decide)) T.b_Counts_len pass0) (by rfl) T.z_len (by decide +kernel) (pa_cons (pv 1) (pa_nil))) (pe_callB (id := "len") (kx_len (K := K) rfl) (by rfl) T.z_len (by decide +kernel) (pa_cons (kp_fld (K := K) rfl (pv 0) rfl) (pa_nil))) (nomark _))
      (pss_one (ps_raiseX rfl (takes_of rfl rfl rfl rfl) ‹PF P› T.ox_Unlike T.z_super (hr.mono (by decide)) rfl T.g_Unlike (pv 1))) pss_nil))), ?_⟩
    rcases h with ⟨p, dx, t, q, dy, u, ms, ns, rfl, hp, ht, hq, hu, hl, hs, k⟩ | ⟨p, dx, t, q, dy, u, ms, ns, rfl, hp, ht, hq, hu, hl, hs, hs2, k⟩ | ⟨p, dx, t, x, ty, rfl, hp, hx, hk, k⟩
    · walk_at "rd"
      exact k
    · walk_at "rd"
      exact k _ (by assumption)
    · walk_at "rd"
      exact k _ (by assumption)
theorem ok_Counts_joined (T : Tx K mg) : FnOk P w K mg base (L2.CX P w) 5 T.f_Counts_joined T.d_Counts_joined ["self", "other"] (sp_Counts_joined K T.C_Counts T.C_NoCounts T.C_Unlike) := by
  refine T.F_Counts_joined.okX sc_Counts_joined (fun vs H Q E h => ?_) (fun cdv A outer s H vs Q E hr h => ?_)
  · rcases h with ⟨p, dx, t, q, dy, u, ms, ns, rfl, hp, ht, hq, hu, hl, h2, h5, hm, hn, k⟩ | ⟨p, dx, t, q, dy, u, ms, ns, rfl, hp, ht, hq, hu, hl, hs, hs2, k⟩ | ⟨p, dx, t, x, ty, rfl, hp, hx, hk, k⟩
    all_goals rfl
  · have hu := hu_of hr
    refine ⟨_, (pss_cons (ps_expr (pe_methE (pv 0) T.c_Counts T.mt_Counts_check_like (ok_Counts_check_like (P := P) T) (hr.mono (by decide)) T.b_Counts_check_like .nil (fun σ => passX (takes_of rfl rfl rfl rfl) σ) (pa_cons (pv 1) (pa_nil))))
      (pss_one (ps_ret (pe_make T.mk_Counts (ok_Counts_init (P := P) T) (hr.mono (by decide)) rfl T.g_Counts T.b_Counts_init .nil pass0 (pa_cons (pe_lc (own := [("own", 2), ("its", 3)]) (g := (gTup K 2 ((gCons (gName 2) (gCons (gName 3) gNil))))) (tt := tYes) rfl sc_Counts_joined.nd (RZ.pi_zipA (by rfl) T.z_zip (pa_cons (kp_fld (K := K) rfl (pv 0) rfl) (pa_cons (pe_meth0 (pv 1) T.c_Counts T.mt_Counts_told (ok_Counts_told (P := P) T) (hr.mono (by decide)) T.b_Counts_told .nil pass0) (pa_nil)))) (blkOk_by (own := [("own", 2), ("its", 3)]) (N := ["self", "other", "own", "its"]) (sc := defScope s_Counts_joined) (by decide +kernel)) (fun _ _ _ _ _ => (kg_tup (K := K) (n := 2) rfl rfl (pgs_cons (pg_name (i := 2) sc_Counts_joined.nd rfl (Or.inl rfl)) (pgs_cons (pg_name (i := 3) sc_Counts_joined.nd rfl (Or.inl rfl)) pgs_nil)))) (fun _ _ _ _ _ => pts_nil) (fun _ _ _ _ _ => (pe_callB (id := "max") (call_maxA rfl) (by rfl) T.z_max (by decide +kernel) (pa_cons (pv 2) (pa_cons (pv 3) (pa_nil)))))) (pa_nil)))))), ?_⟩
    rcases h with ⟨p, dx, t, q, dy, u, ms, ns, rfl, hp, ht, hq, hu, hl, h2, h5, hm, hn, k⟩ | ⟨p, dx, t, q, dy, u, ms, ns, rfl, hp, ht, hq, hu, hl, hs, hs2, k⟩ | ⟨p, dx, t, x, ty, rfl, hp, hx, hk, k⟩
    · walk_at "rd"
      refine lc_zipF fMax (SqT.of ht) (SqT.of hu) (by walk_at "sd") (by assumption) (fun x hx y hy w H2 R s2 hw hR => ?_) (fun H' s2 e => ?_) ?_
      · obtain ⟨i, _, rfl⟩ := List.mem_map.mp hx
        obtain ⟨j, _, rfl⟩ := List.mem_map.mp hy
        walk_at "rd"
        refine ⟨rfl, ?_⟩
        walk_at "rd"
        exact hR _ (Same.refl _)
      · rw [zipMax] at e
        have hN : NN ((List.zipWith max ms ns).map V.int) := NN.of (zip_mem fun a ha b hb => by
          have := hm a ha
          have := hn b hb
          omega)
        walk_at "rdn"
        intro x dz nx ndx nex
        walk_at "rdn"
        intro v H3 f3 g1 g2
        walk_at "rdn"
        exact k x dz v H3 (fun b o eb => f3 b o (by walk_at "ne") (by walk_at "lk")) g1 g2
      · exact gTup2_m
    · walk_at "rd"
      exact k _ (by assumption)
    · walk_at "rd"
      exact k _ (by assumption)
theorem ok_law_take (T : Tx K mg) : FnOk P w K mg base CX0 1 T.f_law_take T.d_law_take ["pool", "size"] (sp_law_take ) := by
  refine T.F_law_take.ok sc_law_take (fun vs H Q E h => ?_) (fun cdv A outer s H vs Q E hr h => ?_)
  · rcases h with ⟨p, n, m, rfl, hp, hm, hb, k⟩
    all_goals rfl
  · have hu := hu_of hr
    refine ⟨_, (pss_cons (ps_set (i := 2) sc_law_take.nd rfl (Or.inl rfl) (pe_op op_mod (pe_ix (ki_list (K := K) rfl) (pv 0) pe_int (fun _ _ => rfl)) (pv 1)))
      (pss_cons (ps_asg (pe_op op_fdivW (pe_ix (ki_list (K := K) rfl) (pv 0) pe_int (fun _ _ => rfl)) (pv 1)) (pg_sub (pv 0) pe_int set_list))
      (pss_one (ps_ret (pv 2))))), ?_⟩
    rcases h with ⟨p, n, m, rfl, hp, hm, hb, k⟩
    walk_at "rd"
    exact k
theorem ok_law_pool (T : Tx K mg) : FnOk P w K mg base CX0 1 T.f_law_pool T.d_law_pool ["cell"] (sp_law_pool ) := by
  refine T.F_law_pool.ok sc_law_pool (fun vs H Q E h => ?_) (fun cdv A outer s H vs Q E hr h => ?_)
  · rcases h with ⟨cell, rfl, k⟩
    all_goals rfl
  · have hu := hu_of hr
    refine ⟨_, (pss_cons (ps_if (pt_cmpR op_ge (pv 0) (pe_op op_pow pe_int pe_int) (nomark _))
      (pss_one (ps_ret (pe_lst (pa_cons (pv 0) (pa_nil))))) pss_nil)
      (pss_cons (ps_set (i := 1) sc_law_pool.nd rfl (Or.inl rfl) pe_int)
      (pss_cons (ps_for PassesOwn.never rfl (pi_range1 rfl T.z_range (pa_cons pe_int (pa_nil))) (pg_name (i := 2) sc_law_pool.nd rfl (Or.inl rfl))
      (pss_cons (ps_set (i := 3) sc_law_pool.nd rfl (Or.inl rfl) (pe_op op_mod (pe_op op_pow (pe_op op_add (pe_op op_add (pe_op op_mul (pe_op op_mod (pv 0) pe_int) pe_int) (pe_op op_mul pe_int (pv 2))) pe_int) pe_int) pe_int))
      (pss_one (ps_set (i := 1) sc_law_pool.nd rfl (Or.inl rfl) (pe_op op_add (pe_op op_mul (pv 1) pe_int) (pe_op op_mod (pe_op op_pow (pe_op op_add (pe_op op_mul (pv 3) pe_int) (pv 2)) pe_int) pe_int))))))
      (pss_one (ps_ret (pe_lst (pa_cons (pv 1) (pa_nil)))))))), ?_⟩
    rcases h with ⟨cell, rfl, k⟩
    walk_at "rd"
    refine q_ifx (fun hc => ?_) (fun hc => ?_)
    · walk_at "rd"
      have : (10:Int) ^ Int.toNat 18 = 1000000000000000000 := by decide
      exact k _ _ (by assumption) (by omega)
    · walk_at "rd"
      refine for_range (n := 9) (fun i σ H' => ∃ (z : Int) (a b : Option V), σ = [some (.int cell), some (.int z), a, b] ∧ 0 ≤ z ∧ H' = H) ⟨0, none, none, rfl, Int.le_refl _, rfl⟩ ?_ ?_
      · rintro i σ H' hi ⟨z, a, b, rfl, hz, rfl⟩
        walk_at "rd"
        exact ⟨_, _, _, rfl, by omega, rfl⟩
      · rintro σ H' ⟨z, a, b, rfl, hz, rfl⟩
        walk_at "rd"
        exact k _ _ (by assumption) hz
theorem ok_law_numbers (T : Tx K mg) : FnOk P w K mg base CX0 2 T.f_law_numbers T.d_law_numbers ["pool", "members"] (sp_law_numbers K) := by
  refine T.F_law_numbers.ok sc_law_numbers (fun vs H Q E h => ?_) (fun cdv A outer s H vs Q E hr h => ?_)
  · rcases h with ⟨p, n, m, rfl, hp, hn, hm, h5, k⟩
    all_goals rfl
  · have hu := hu_of hr
    refine ⟨_, (pss_cons (ps_set (i := 2) sc_law_numbers.nd rfl (Or.inr rfl) (pe_ix (ki_list (K := K) rfl) (pe_lst (pa_cons pe_int (pa_cons pe_int (pa_cons pe_int (pa_cons (pe_op op_pow pe_int pe_int) (pa_nil)))))) (pe_call (ok_law_take (P := P) T) (hr.mono (by decide)) rfl T.m_law_take T.k_law_take T.b_law_take .nil pass0 (pa_cons (pv 0) (pa_cons pe_int (pa_nil)))) (fun _ _ => rfl)))
      (pss_one (ps_ret (pe_lc (own := [("k", 3)]) (g := gName 3) (tt := tYes) rfl sc_law_numbers.nd (pi_range1 rfl T.z_range (pa_cons (pv 1) (pa_nil))) (blkOk_by (own := [("k", 3)]) (N := ["pool", "members", "size", "k"]) (sc := defScope s_law_numbers) (by decide +kernel)) (fun _ _ _ _ _ => (pg_name (i := 3) sc_law_numbers.nd rfl (Or.inl rfl))) (fun _ _ _ _ _ => pts_nil) (fun _ _ _ _ _ => (pe_call (ok_law_take (P := P) T) (hr.mono (by decide)) rfl T.m_law_take T.k_law_take T.b_law_take .nil pass0 (pa_cons (pv 0) (pa_cons (pv 2) (pa_nil))))))))), ?_⟩
    rcases h with ⟨p, n, m, rfl, hp, hn, hm, h5, k⟩
    walk_at "rdn"
    intro sA hsA
    walk_at "rdn"
    obtain ⟨m1, h1, h2⟩ := at_ints [2, 4, 30, 10 ^ Int.toNat 30] (fun x => 0 < x ∧ x ≤ 10 ^ 30) (i := n % 4) (by decide +kernel) (by omega) (by show n % 4 < 4; omega)
    have nps : p ≠ sA := by walk_at "ne"
    refine q_ixL (by walk_at "sq") h1 ?_
    walk_at "rdn"
    intro D hD
    have nDp : D ≠ p := by walk_at "ne"
    have hDH : H D = none := by walk_at "fr"
    have hb : m1.natAbs < 2 ^ 8000 := Nat.lt_of_le_of_lt (show m1.natAbs ≤ 10 ^ 30 by omega) (by decide +kernel)
    refine lc_it walk_range (fun i H' => ∃ (z : Int) (ys : List Int), 0 ≤ z ∧ ys.length = i ∧ (∀ y ∈ ys, 0 ≤ y) ∧ H' p = some (.lst [.int z]) ∧ H' D = some (.lst (ys.map V.int)) ∧ Fr1 p H H') ?_ (fun _ _ _ _ => trivial) ?_ ?_
    · refine ⟨n / 4, [], by omega, rfl, by simp, by walk_at "lk", upd_same, fun b o hb2 e => by walk_at "lk"⟩
    · rintro i x H1 H' hi ⟨z, ys, hz, hy, hyn, f1, f2, f3⟩ ⟨rfl, rfl⟩
      refine ⟨wipe_set, ?_⟩
      walk_at "rd"
      have hD3 := f3
      refine ⟨ys.map V.int, by walk_at "lk", line_lt (by simp; omega), z / m1, ys ++ [z % m1], Int.ediv_nonneg hz (by omega), by simp [hy], ?_, by walk_at "lk", ?_, fun b o hb2 e => ?_⟩
      · intro y hy2
        rcases List.mem_append.mp hy2 with h | h
        · exact hyn y h
        · rw [List.mem_singleton.mp h]
          exact Int.emod_nonneg _ (by omega)
      · rw [upd_same, List.map_append]
        rfl
      · have := f3 b o hb2 e
        walk_at "lk"
    · rintro H' ⟨z, ys, hz, hy, hyn, f1, f2, f3⟩
      walk_at "rd"
      exact k D ys z H' f3 f1 hz hDH nDp f2 hy hyn
theorem ok_check_members (T : Tx K mg) : FnOk P w K mg base (L2.CX P w) 3 T.f_check_members T.d_check_members ["members"] (sp_check_members K T.C_NoNumber) := by
  refine T.F_check_members.okX sc_check_members (fun vs H Q E h => ?_) (fun cdv A outer s H vs Q E hr h => ?_)
  · rcases h with ⟨m, rfl, h2, h5, k⟩ | ⟨x, rfl, hx, k⟩
    all_goals rfl
  · have hu := hu_of hr
    refine ⟨_, (pss_one (ps_if (pt_not (pt_val (pe_call (ok_is_whole (P := P) T) (hr.mono (by decide)) rfl T.m_is_whole T.k_is_whole T.b_is_whole .nil pass0 (pa_cons (pv 0) (pa_cons (pe_glob (v := .int 2) rfl T.g_LEAST_MEMBERS ⟨_, rfl⟩) (pa_cons (pe_glob (v := .int 5) rfl T.g_MOST_MEMBERS ⟨_, rfl⟩) (pa_nil)))))))
      (pss_one (ps_raiseX rfl (takes_of rfl rfl rfl rfl) ‹PF P› T.ox_NoNumber T.z_super (hr.mono (by decide)) rfl T.g_NoNumber (pv 0))) pss_nil)), ?_⟩
    rcases h with ⟨m, rfl, h2, h5, k⟩ | ⟨x, rfl, hx, k⟩
    · walk_at "rdx"
      all_goals exact k
    · rcases hx with ⟨n, rfl, hn⟩ | ⟨b, rfl⟩ | ⟨t, ht, hk⟩
      all_goals walk_at "rdx"
      all_goals exact k _ (by assumption)
theorem ok_law_cell_at (T : Tx K mg) : FnOk P w K mg base CX0 1 T.f_law_cell_at T.d_law_cell_at ["script", "k"] (sp_law_cell_at K) := by
  refine T.F_law_cell_at.ok sc_law_cell_at (fun vs H Q E h => ?_) (fun cdv A outer s H vs Q E hr h => ?_)
  · rcases h with ⟨a, ns, n, rfl, hs, h0, hl, k⟩
    all_goals rfl
  · have hu := hu_of hr
    refine ⟨_, (pss_cons (ps_if (pt_cmpR op_lt (pv 1) (pe_callB (id := "len") (kx_len (K := K) rfl) (by rfl) T.z_len (by decide +kernel) (pa_cons (pv 0) (pa_nil))) (nomark _))
      (pss_one (ps_ret (pe_ix (ki_list (K := K) rfl) (pv 0) (pv 1) (fun _ _ => rfl)))) pss_nil)
      (pss_one (ps_ret pe_int))), ?_⟩
    rcases h with ⟨a, ns, n, rfl, hs, h0, hl, k⟩
    walk_at "rdn"
    refine q_ifx (fun hc => ?_) (fun hc => ?_)
    · obtain ⟨j, rfl⟩ := Int.eq_ofNat_of_zero_le h0
      simp only [List.length_map] at hc
      have hj : j < ns.length := by omega
      have ha := atI_map hj
      rw [Int.zero_add] at ha
      walk_at "rdn"
      exact k _
    · walk_at "rdn"
      exact k _
theorem ok_all_joined (T : Tx K mg) : FnOk P w K mg base (L2.CX P w) 6 T.f_all_joined T.d_all_joined ["members", "rows"] (sp_all_joined K T.C_Counts T.C_NoNumber T.C_NoCounts) := by
  refine T.F_all_joined.okX sc_all_joined (fun vs H Q E h => ?_) (fun cdv A outer s H vs Q E hr h => ?_)
  · rcases h with ⟨m, a, xs, css, rfl, h2, h5, ha, hc, ho, hl, k⟩ | ⟨m, a, xs, bs, rfl, h2, h5, ha, hb, hx, hl, k⟩ | ⟨m, x, t, rfl, h2, h5, hx, hk, k⟩ | ⟨x, y, rfl, hx, k⟩
    all_goals rfl
  · have hu := hu_of hr
    refine ⟨_, (pss_cons (ps_expr (pe_callSD (ok_check_members (P := P) T) (hr.mono (by decide)) rfl T.m_check_members T.k_check_members T.b_check_members .nil (fun σ => passX (takes_of rfl rfl rfl rfl) σ) (pa_cons (pv 0) (pa_nil))))
      (pss_cons (ps_if (PW.pt (pw_or (pt_not (pt_val (pe_call (ok_is_list (P := P) T) (hr.mono (by decide)) rfl T.m_is_list T.k_is_list T.b_is_list .nil pass0 (pa_cons (pv 1) (pa_nil))))) (pw_or1 (pt_not (pt_val (pe_callB (id := "all") (kx_all (K := K) rfl rfl) (by rfl) T.z_all (by decide +kernel) (pa_cons (pe_lc (own := [("row", 3)]) (g := gName 3) (tt := tYes) rfl sc_all_joined.nd (kpi_seq (K := K) rfl (pv 1)) (blkOk_by (own := [("row", 3)]) (N := ["members", "rows", "joined", "row"]) (sc := defScope s_all_joined) (by decide +kernel)) (fun _ _ _ _ _ => (pg_name (i := 3) sc_all_joined.nd rfl (Or.inl rfl))) (fun _ _ _ _ _ => pts_nil) (fun _ _ _ _ _ => (pe_and (pe_callB (id := "isinstance") (kx_isi (K := K) rfl) (by rfl) T.z_isinstance (by decide +kernel) (pa_cons (pv 3) (pa_cons (pe_glob (v := .ref T.C_Counts) rfl T.g_Counts rfl) (pa_nil)))) (pe_one (pe_cmpR op_eq (pe_callB (id := "len") (call_lenO rfl T.mt_Counts_len.at_ T.mt_Counts_len.fn (ok_Counts_len (P := P) T) (hr.mono (by decide)) T.b_Counts_len pass0) (by rfl) T.z_len (by decide +kernel) (pa_cons (pv 3) (pa_nil))) (pv 0) (nomark _)))))) (pa_nil))))))))
      (pss_one (ps_raiseX rfl (takes_of rfl rfl rfl rfl) ‹PF P› T.ox_NoCounts T.z_super (hr.mono (by decide)) rfl T.g_NoCounts (pv 1))) pss_nil)
      (pss_cons (ps_set (i := 2) sc_all_joined.nd rfl (Or.inl rfl) (pe_make T.mk_Counts (ok_Counts_init (P := P) T) (hr.mono (by decide)) rfl T.g_Counts T.b_Counts_init .nil pass0 (pa_cons (pe_op op_rep (pe_lst (pa_cons pe_int (pa_nil))) (pv 0)) (pa_nil))))
      (pss_cons (ps_for (passes_of rfl) rfl (kpi_seq (K := K) rfl (pv 1)) (pg_name (i := 3) sc_all_joined.nd rfl (Or.inl rfl))
      (pss_one (ps_set (i := 2) sc_all_joined.nd rfl (Or.inl rfl) (pe_methE (pv 2) T.c_Counts T.mt_Counts_joined (ok_Counts_joined (P := P) T) (hr.mono (by decide)) T.b_Counts_joined .nil (fun σ => passX (takes_of rfl rfl rfl rfl) σ) (pa_cons (pv 3) (pa_nil))))))
      (pss_one (ps_ret (pv 2))))))), ?_⟩
    rcases h with ⟨m, a, xs, css, rfl, h2, h5, ha, hc, ho, hl, k⟩ | ⟨m, a, xs, bs, rfl, h2, h5, ha, hb, hx, hl, k⟩ | ⟨m, x, t, rfl, h2, h5, hx, hk, k⟩ | ⟨x, y, rfl, hx, k⟩
    · have hb := CtAts (K := K) hc ho (by omega)
      have hz := hc.1
      rcases ha with ha | ha
      · walk_at "rdn"
        intro H1 s1
        walk_at "rdn"
        refine q_seqL ?_
        walk_at "rdn"
        intro D hD
        refine lc_bools (walk_list (K := K)) _ hb.1 (by omega) (fun H' s => SqL.of (s _ _ (s1 _ _ ha))) hD ?_ ?_
        · intro q x H2 R hx s2 hR
          obtain ⟨p, dx, t, ns, rfl, e1, e2, e3, e4⟩ | ⟨ty, e1, e2, e3⟩ := (hb.2 q x hx).same (s1.trans s2)
          · walk_at "rdn"
            have e5 := hR H2 (Same.refl _)
            rw [e4, show decide (ns.length = m.toNat) = decide ((↑(List.map V.int ns).length : Int) = m) from decide_eq_decide.mpr (by rw [List.length_map]; omega)] at e5
            exact e5
          · walk_at "rdn"
            have e5 := hR H2 (Same.refl _)
            rw [e3] at e5
            exact e5
        · intro H' s2 e
          walk_at "rdn"
          refine q_ifs (fun _ => ?_) (fun hf => absurd hf (by rw [all_rep]; decide))
          walk_at "rdn"
          intro z hz0
          walk_at "rdn"
          refine q_rep (xs := [V.int 0]) upd_same (by omega) (by omega) (line_of (by simp only [List.length_cons, List.length_nil]; omega)) ?_
          rw [rep0]
          intro w hw
          walk_at "rdn"
          intro x dx nx ndx nex
          refine r_Counts_init rfl (hp := upd_same) (ha := by walk_at "lk") (hl := by simp; omega) (hl2 := by simp; omega) (hn := nn0) ?_
          intro t H3 f3 g1 g2
          have s3 : Same H' H3 := fun b o eb => f3 b o (by walk_at "ne") (by walk_at "lk")
          have s4 := (s1.trans s2).trans s3
          clear e s2 s1 f3 nx ndx hw hz0
          refine ⟨rfl, ?_⟩
          walk_at "rdn"
          refine q_seqL ?_
          walk_at "rdn"
          refine for_list (K := K) (a := a) (xs := xs) (fun i σ H9 => ∃ (j dz v : Addr) (u : Option V), σ = [some (.int m), some (.ref a), some (.ref j), u] ∧ Same H H9 ∧ H9 j = some (.ins T.C_Counts dz [("_numbers", .ref v)]) ∧ H9 v = some (.tup (((css.take i).foldl (List.zipWith max) (List.replicate m.toNat 0)).map V.int))) ⟨x, dx, t, none, rfl, s4, g1, g2⟩ (fun i σ H9 _ h => by obtain ⟨_, _, _, _, _, h, _⟩ := h; exact SqL.of (h _ _ ha)) ?_ ?_
          · rintro i y σ H9 hy ⟨j, dz, v, u, rfl, s9, f1, f2⟩
            have hi := (List.getElem?_eq_some_iff.mp hy).1
            obtain ⟨p, dp, tp, rfl, q1, q2⟩ := (hc.2 i y hy).same s9
            obtain ⟨o1, o2⟩ := fold_ok ho i (by omega)
            obtain ⟨o3, o4⟩ := ok_getD ho (i := i) (by omega)
            walk_at "rdn"
            intro r dr vr H10 s10 r1 r2
            walk_at "rdn"
            refine ⟨r, dr, vr, _, rfl, s9.trans s10, r1, ?_⟩
            rw [fold_step (by omega)]
            exact r2
          · rintro σ H9 ⟨j, dz, v, u, rfl, s9, f1, f2⟩
            walk_at "rdn"
            refine k j dz v H9 s9 f1 ?_
            rw [List.take_of_length_le (by omega)] at f2
            exact f2
      · have a1 : TyX K H (.ref a) (.type "tuple") := by walk_at "tyx"
        have a4 : PySem.W.kitAny K (.type "tuple") [.type "list", .type "tuple"] = some true := by walk_at "kia"
        walk_at "rdn"
        intro H1 s1
        walk_at "rdn"
        refine q_seqT ?_
        walk_at "rdn"
        intro D hD
        refine lc_bools (walk_tup (K := K)) _ hb.1 (by omega) (fun H' s => SqT.of (s _ _ (s1 _ _ ha))) hD ?_ ?_
        · intro q x H2 R hx s2 hR
          obtain ⟨p, dx, t, ns, rfl, e1, e2, e3, e4⟩ | ⟨ty, e1, e2, e3⟩ := (hb.2 q x hx).same (s1.trans s2)
          · walk_at "rdn"
            have e5 := hR H2 (Same.refl _)
            rw [e4, show decide (ns.length = m.toNat) = decide ((↑(List.map V.int ns).length : Int) = m) from decide_eq_decide.mpr (by rw [List.length_map]; omega)] at e5
            exact e5
          · walk_at "rdn"
            have e5 := hR H2 (Same.refl _)
            rw [e3] at e5
            exact e5
        · intro H' s2 e
          walk_at "rdn"
          refine q_ifs (fun _ => ?_) (fun hf => absurd hf (by rw [all_rep]; decide))
          walk_at "rdn"
          intro z hz0
          walk_at "rdn"
          refine q_rep (xs := [V.int 0]) upd_same (by omega) (by omega) (line_of (by simp only [List.length_cons, List.length_nil]; omega)) ?_
          rw [rep0]
          intro w hw
          walk_at "rdn"
          intro x dx nx ndx nex
          refine r_Counts_init rfl (hp := upd_same) (ha := by walk_at "lk") (hl := by simp; omega) (hl2 := by simp; omega) (hn := nn0) ?_
          intro t H3 f3 g1 g2
          have s3 : Same H' H3 := fun b o eb => f3 b o (by walk_at "ne") (by walk_at "lk")
          have s4 := (s1.trans s2).trans s3
          clear e s2 s1 f3 nx ndx hw hz0
          refine ⟨rfl, ?_⟩
          walk_at "rdn"
          refine q_seqT ?_
          walk_at "rdn"
          refine for_tup (K := K) (a := a) (xs := xs) (fun i σ H9 => ∃ (j dz v : Addr) (u : Option V), σ = [some (.int m), some (.ref a), some (.ref j), u] ∧ Same H H9 ∧ H9 j = some (.ins T.C_Counts dz [("_numbers", .ref v)]) ∧ H9 v = some (.tup (((css.take i).foldl (List.zipWith max) (List.replicate m.toNat 0)).map V.int))) ⟨x, dx, t, none, rfl, s4, g1, g2⟩ (fun i σ H9 _ h => by obtain ⟨_, _, _, _, _, h, _⟩ := h; exact SqT.of (h _ _ ha)) ?_ ?_
          · rintro i y σ H9 hy ⟨j, dz, v, u, rfl, s9, f1, f2⟩
            have hi := (List.getElem?_eq_some_iff.mp hy).1
            obtain ⟨p, dp, tp, rfl, q1, q2⟩ := (hc.2 i y hy).same s9
            obtain ⟨o1, o2⟩ := fold_ok ho i (by omega)
            obtain ⟨o3, o4⟩ := ok_getD ho (i := i) (by omega)
            walk_at "rdn"
            intro r dr vr H10 s10 r1 r2
            walk_at "rdn"
            refine ⟨r, dr, vr, _, rfl, s9.trans s10, r1, ?_⟩
            rw [fold_step (by omega)]
            exact r2
          · rintro σ H9 ⟨j, dz, v, u, rfl, s9, f1, f2⟩
            walk_at "rdn"
            refine k j dz v H9 s9 f1 ?_
            rw [List.take_of_length_le (by omega)] at f2
            exact f2
    · rcases ha with ha | ha
      · walk_at "rdn"
        intro H1 s1
        walk_at "rdn"
        refine q_seqL ?_
        walk_at "rdn"
        intro D hD
        refine lc_bools (walk_list (K := K)) _ hb.1 (by omega) (fun H' s => SqL.of (s _ _ (s1 _ _ ha))) hD ?_ ?_
        · intro q x H2 R hx s2 hR
          obtain ⟨p, dx, t, ns, rfl, e1, e2, e3, e4⟩ | ⟨ty, e1, e2, e3⟩ := (hb.2 q x hx).same (s1.trans s2)
          · walk_at "rdn"
            have e5 := hR H2 (Same.refl _)
            rw [e4, show decide (ns.length = m.toNat) = decide ((↑(List.map V.int ns).length : Int) = m) from decide_eq_decide.mpr (by rw [List.length_map]; omega)] at e5
            exact e5
          · walk_at "rdn"
            have e5 := hR H2 (Same.refl _)
            rw [e3] at e5
            exact e5
        · intro H' s2 e
          walk_at "rdn"
          refine q_ifs (fun hf => absurd hf (by rw [hx]; decide)) (fun _ => ?_)
          walk_at "rd"
          exact k _ _ (by walk_at "sm") upd_same
      · have a1 : TyX K H (.ref a) (.type "tuple") := by walk_at "tyx"
        have a4 : PySem.W.kitAny K (.type "tuple") [.type "list", .type "tuple"] = some true := by walk_at "kia"
        walk_at "rdn"
        intro H1 s1
        walk_at "rdn"
        refine q_seqT ?_
        walk_at "rdn"
        intro D hD
        refine lc_bools (walk_tup (K := K)) _ hb.1 (by omega) (fun H' s => SqT.of (s _ _ (s1 _ _ ha))) hD ?_ ?_
        · intro q x H2 R hx s2 hR
          obtain ⟨p, dx, t, ns, rfl, e1, e2, e3, e4⟩ | ⟨ty, e1, e2, e3⟩ := (hb.2 q x hx).same (s1.trans s2)
          · walk_at "rdn"
            have e5 := hR H2 (Same.refl _)
            rw [e4, show decide (ns.length = m.toNat) = decide ((↑(List.map V.int ns).length : Int) = m) from decide_eq_decide.mpr (by rw [List.length_map]; omega)] at e5
            exact e5
          · walk_at "rdn"
            have e5 := hR H2 (Same.refl _)
            rw [e3] at e5
            exact e5
        · intro H' s2 e
          walk_at "rdn"
          refine q_ifs (fun hf => absurd hf (by rw [hx]; decide)) (fun _ => ?_)
          walk_at "rd"
          exact k _ _ (by walk_at "sm") upd_same
    · walk_at "rd"
      exact k _ _ (by walk_at "sm") upd_same
    · walk_at "rdn"
      exact k
theorem ok_law_rows (T : Tx K mg) : FnOk P w K mg base CX0 3 T.f_law_rows T.d_law_rows ["script", "members", "count"] (sp_law_rows K) := by
  refine T.F_law_rows.ok sc_law_rows (fun vs H Q E h => ?_) (fun cdv A outer s H vs Q E hr h => ?_)
  · rcases h with ⟨a, ns, m, n, rfl, hs, hl, h2, h5, h0, hn, k⟩
    all_goals rfl
  · have hu := hu_of hr
    refine ⟨_, (pss_cons (ps_set (i := 3) sc_law_rows.nd rfl (Or.inl rfl) (pe_lst pa_nil))
      (pss_cons (ps_for PassesOwn.never rfl (pi_range1 rfl T.z_range (pa_cons (pv 2) (pa_nil))) (pg_name (i := 4) sc_law_rows.nd rfl (Or.inl rfl))
      (pss_cons (ps_set (i := 5) sc_law_rows.nd rfl (Or.inl rfl) (pe_ifExp (pt_cmpR op_lt (pv 4) pe_int (nomark _)) (pe_call (ok_law_cell_at (P := P) T) (hr.mono (by decide)) rfl T.m_law_cell_at T.k_law_cell_at T.b_law_cell_at .nil pass0 (pa_cons (pv 0) (pa_cons (pe_op op_add pe_int (pv 4)) (pa_nil)))) (pe_op op_add (pe_op op_add (pe_op op_mul (pe_op op_mod (pe_call (ok_law_cell_at (P := P) T) (hr.mono (by decide)) rfl T.m_law_cell_at T.k_law_cell_at T.b_law_cell_at .nil pass0 (pa_cons (pv 0) (pa_cons (pe_op op_mod (pv 4) pe_int) (pa_nil)))) pe_int) pe_int) (pe_op op_mul (pe_op op_mul (pv 4) (pv 4)) pe_int)) pe_int)))
      (pss_one (ps_expr (pe_bm PySem.F.plainAttrs_list PySem.F.slot_list_append PySem.F.type_list_append mt_append (pv 3) (pa_cons (pe_call (ok_law_numbers (P := P) T) (hr.mono (by decide)) rfl T.m_law_numbers T.k_law_numbers T.b_law_numbers .nil pass0 (pa_cons (pe_call (ok_law_pool (P := P) T) (hr.mono (by decide)) rfl T.m_law_pool T.k_law_pool T.b_law_pool .nil pass0 (pa_cons (pv 5) (pa_nil))) (pa_cons (pv 1) (pa_nil)))) (pa_nil)))))))
      (pss_one (ps_ret (pv 3))))), ?_⟩
    rcases h with ⟨a, ns, m, n, rfl, hs, hl, h2, h5, h0, hn, k⟩
    walk_at "rdn"
    intro R hR
    walk_at "rdn"
    refine for_range (n := n.toNat) (fun i σ H' => ∃ (rs : List V) (css : List (List Int)) (u1 u2 : Option V), σ = [some (.ref a), some (.int m), some (.int n), some (.ref R), u1, u2] ∧ Same H H' ∧ H' R = some (.lst rs) ∧ At2 (RowAtD R H') rs css ∧ AllOk m.toNat css ∧ css.length = i) ⟨[], [], none, none, rfl, Same.new hR, upd_same, At2.nil, fun c hc => by simp at hc, rfl⟩ ?_ ?_
    · rintro i σ H1 hi ⟨rs, css, u1, u2, rfl, s1, r1, r2, r3, r4⟩
      have hs1 := s1.seq hs
      have hrl := r2.1
      walk_at "rdn"
      refine q_ifx (fun _ => ?_) (fun _ => ?_)
      all_goals walk_at "rdn"
      all_goals intro c
      all_goals walk_at "rdn"
      all_goals intro p z hp hz
      all_goals walk_at "rdn"
      all_goals intro l ys z2 H2 f2 e1 hz2 hl nlp e2 hlen hnn
      all_goals have sR2 : Same H1 H2 := fun b o eb => f2 b o (by walk_at "ne") (by walk_at "lk")
      all_goals have nlR : l ≠ R := by walk_at "ne"
      all_goals have r1' := same_at sR2 r1
      all_goals walk_at "rdn"
      all_goals refine ⟨rs ++ [.ref l], css ++ [ys], _, _, rfl, (s1.trans sR2).snew hR, upd_same, At2.snoc (r2.mono fun x c h => h.fr fun b o nb e => (upd_ne nb).trans (sR2 _ _ e)) ⟨l, rfl, nlR, (upd_ne nlR).trans e2⟩, ?_, by simp; omega⟩
      all_goals intro c hc
      all_goals rcases List.mem_append.mp hc with hc | hc
      all_goals first | exact r3 c hc | (rw [List.mem_singleton.mp hc]; exact ⟨hlen, hnn⟩)
    · rintro σ H1 ⟨rs, css, u1, u2, rfl, s1, r1, r2, r3, r4⟩
      walk_at "rdn"
      exact k R rs css H1 s1 r1 (r2.mono fun x c h => by obtain ⟨p, e, _, h1⟩ := h; exact ⟨p, e, h1⟩) r3 r4
theorem ok_law_first (T : Tx K mg) : FnOk P w K mg base CX0 7 T.f_law_first T.d_law_first ["members", "rows"] (sp_law_first K T.C_Counts) := by
  refine T.F_law_first.ok sc_law_first (fun vs H Q E h => ?_) (fun cdv A outer s H vs Q E hr h => ?_)
  · rcases h with ⟨m, a, xs, bs, rfl, h2, h5, ha, hb, hx, hl, k⟩ | ⟨m, a, xs, bs, rfl, h2, h5, ha, hb, hx, hl, k⟩ | ⟨m, x, t, rfl, h2, h5, hx, hk, hj, k⟩ | ⟨x, y, t, b, rfl, hx, ht, hk, k⟩
    all_goals rfl
  · have hu := hu_of hr
    refine ⟨_, (pss_cons (ps_tryX rfl rfl sc_law_first.nd takes0 (fun W pn xe tk po => (pss_one (ps_expr (pe_callSD (ok_all_joined (P := P) T) (hr.mono (by decide)) rfl T.m_all_joined T.k_all_joined T.b_all_joined .nil (fun σ => passX tk σ) (pa_cons (pv 0) (pa_cons (pv 1) (pa_nil)))))))
      (.named (i := 2) (TK.two (show Names _ "NoNumber" (.ref T.C_NoNumber) from ⟨rfl, by decide, .inl T.g_NoNumber⟩) (show Names _ "NoCounts" (.ref T.C_NoCounts) from ⟨rfl, by decide, .inl T.g_NoCounts⟩)) rfl rfl (fun a oe cls d pn hz hf => (pss_cons (ps_if (PW.pt (pw_and (pt_val (pe_callB (id := "isinstance") (kx_isi (K := K) rfl) (by rfl) T.z_isinstance (by decide +kernel) (pa_cons (pv 1) (pa_cons (pe_bltn (v := .ty "list") (u := .type "list") (by rfl) T.z_list (by decide +kernel) rfl) (pa_nil))))) (pw_and1 (pt_val (pe_callB (id := "isinstance") (call_isX hz hf rfl) (by rfl) T.z_isinstance (by decide +kernel) (pa_cons (pv 2) (pa_cons (pe_glob (v := .ref T.C_NoCounts) rfl T.g_NoCounts rfl) (pa_nil))))))))
      (pss_one (ps_expr (kbm (K := K) rfl (pe_bm PySem.F.plainAttrs_list PySem.F.slot_list_append PySem.F.type_list_append mt_append (pv 1) (pa_cons pe_str (pa_nil)))))) pss_nil)
      (pss_cons (ps_if (PW.pt (pw_or (pt_not (pt_val (pe_callB (id := "isinstance") (call_isX hz hf rfl) (by rfl) T.z_isinstance (by decide +kernel) (pa_cons (pv 2) (pa_cons (pe_glob (v := .ref T.C_HallError) rfl T.g_HallError rfl) (pa_nil)))))) (pw_or1 (PW.pt (pw_and (pt_val (pe_callB (id := "isinstance") (call_isX hz hf rfl) (by rfl) T.z_isinstance (by decide +kernel) (pa_cons (pv 2) (pa_cons (pe_glob (v := .ref T.C_NoNumber) rfl T.g_NoNumber rfl) (pa_nil))))) (pw_and1 (pt_val (pe_callB (id := "isinstance") (call_isX hz hf rfl) (by rfl) T.z_isinstance (by decide +kernel) (pa_cons (pv 2) (pa_cons (pe_glob (v := .ref T.C_NoCounts) rfl T.g_NoCounts rfl) (pa_nil)))))))))))
      (pss_one (ps_ret (pe_tup (pa_cons pe_str (pa_cons (pe_xg rfl hz hf (pv 2)) (pa_nil)))))) pss_nil)
      (pss_one (ps_ret (pe_tup (pa_cons (pe_ifExp (pt_val (pe_callB (id := "isinstance") (call_isX hz hf rfl) (by rfl) T.z_isinstance (by decide +kernel) (pa_cons (pv 2) (pa_cons (pe_glob (v := .ref T.C_NoNumber) rfl T.g_NoNumber rfl) (pa_nil))))) pe_str pe_str) (pa_cons (pe_xg rfl hz hf (pv 2)) (pa_nil))))))))) .nil))
      (pss_one (ps_ret (pe_tup (pa_cons pe_str (pa_cons pe_non (pa_nil))))))), ?_⟩
    rcases h with ⟨m, a, xs, bs, rfl, h2, h5, ha, hb, hx, hl, k⟩ | ⟨m, a, xs, bs, rfl, h2, h5, ha, hb, hx, hl, k⟩ | ⟨m, x, t, rfl, h2, h5, hx, hk, hj, k⟩ | ⟨x, y, t, b, rfl, hx, ht, hk, k⟩
    · have hL : LT H a xs := .inl ha
      walk_at "rdn"
      intro d H1 s1 hd
      have ha1 := same_at s1 ha
      have nda : d ≠ a := fun e => by rw [e, ha1] at hd; cases hd
      walk_at "rd"
      refine k _ _ (fun b o nb e => ?_) (by walk_at "lk") upd_same
      have e1 := s1 _ _ e
      walk_at "lk"
    · have hL : LT H a xs := .inr ha
      walk_at "rdn"
      intro d H1 s1 hd
      have ha1 := same_at s1 ha
      walk_at "rd"
      exact k _ _ (by walk_at "sm") upd_same
    · walk_at "rdn"
      intro d H1 s1 hd
      have hx1 := hx.mono s1
      walk_at "rd"
      exact k _ _ (by walk_at "sm") upd_same
    · walk_at "rdn"
      intro d hd
      have s1 : Same H (upd H d (.xd [("found", x)])) := Same.new hd
      have hx1 := ht.mono s1
      walk_at "rd"
      cases b
      all_goals walk_at "rd"
      all_goals exact k _ _ (by walk_at "sm") upd_same
theorem ok_law_right (T : Tx K mg) : FnOk P w K mg base CX0 7 T.f_law_right T.d_law_right ["members", "rows", "handed"] (sp_law_right K T.C_Counts) := by
  refine T.F_law_right.ok sc_law_right (fun vs H Q E h => ?_) (fun cdv A outer s H vs Q E hr h => ?_)
  · rcases h with ⟨m, R, a, rs, xs, css, rfl, h2, h5, hr, hrs, ha, hc, ho, hl, k⟩
    all_goals rfl
  · have hu := hu_of hr
    refine ⟨_, (pss_cons (ps_set (i := 3) sc_law_right.nd rfl (Or.inl rfl) (pe_call (ok_all_joined (P := P) T) (hr.mono (by decide)) rfl T.m_all_joined T.k_all_joined T.b_all_joined .nil passL (pa_cons (pv 0) (pa_cons (pv 2) (pa_nil)))))
      (pss_cons (ps_set (i := 4) sc_law_right.nd rfl (Or.inr rfl) (pe_op op_rep (pe_lst (pa_cons pe_int (pa_nil))) (pv 0)))
      (pss_cons (ps_for PassesOwn.never rfl (kpi_list (K := K) rfl (pv 1)) (pg_name (i := 5) sc_law_right.nd rfl (Or.inr rfl))
      (pss_one (ps_set (i := 4) sc_law_right.nd rfl (Or.inr rfl) (pe_lc (own := [("k", 6)]) (g := gName 6) (tt := tYes) rfl sc_law_right.nd (pi_range1 rfl T.z_range (pa_cons (pv 0) (pa_nil))) (blkOk_by (own := [("k", 6)]) (N := ["members", "rows", "handed", "told", "due", "row", "k", "counts"]) (sc := defScope s_law_right) (by decide +kernel)) (fun _ _ _ _ _ => (pg_name (i := 6) sc_law_right.nd rfl (Or.inl rfl))) (fun _ _ _ _ _ => pts_nil) (fun _ _ _ _ _ => (pe_callB (id := "max") (call_maxA rfl) (by rfl) T.z_max (by decide +kernel) (pa_cons (pe_ix (ki_list (K := K) rfl) (pv 4) (pv 6) (fun _ _ => rfl)) (pa_cons (pe_ix (ki_list (K := K) rfl) (pv 5) (pv 6) (fun _ _ => rfl)) (pa_nil)))))))))
      (pss_cons (ps_if (PW.pt (pw_or (pt_not (pt_val (pe_callB (id := "isinstance") (kx_isi (K := K) rfl) (by rfl) T.z_isinstance (by decide +kernel) (pa_cons (pv 3) (pa_cons (pe_glob (v := .ref T.C_Counts) rfl T.g_Counts rfl) (pa_nil)))))) (pw_or1 (pt_cmpR (ko_neD (K := K) rfl hr.units) (pe_meth0 (pv 3) T.c_Counts T.mt_Counts_told (ok_Counts_told (P := P) T) (hr.mono (by decide)) T.b_Counts_told .nil pass0) (pe_callTy (T := "tuple") (kx_tuple (K := K) rfl) (by rfl) T.z_tuple (by decide +kernel) (pa_cons (pv 4) (pa_nil))) (nomark _)))))
      (pss_one (ps_ret pe_bl)) pss_nil)
      (pss_one (ps_ret (pe_cmpR (ko_eqD (K := K) rfl hr.units) (pe_lc (own := [("counts", 7)]) (g := gName 7) (tt := tYes) rfl sc_law_right.nd (kpi_seq (K := K) rfl (pv 2)) (blkOk_by (own := [("counts", 7)]) (N := ["members", "rows", "handed", "told", "due", "row", "k", "counts"]) (sc := defScope s_law_right) (by decide +kernel)) (fun _ _ _ _ _ => (pg_name (i := 7) sc_law_right.nd rfl (Or.inl rfl))) (fun _ _ _ _ _ => pts_nil) (fun _ _ _ _ _ => (pe_meth0 (pv 7) T.c_Counts T.mt_Counts_told (ok_Counts_told (P := P) T) (hr.mono (by decide)) T.b_Counts_told .nil pass0))) (pe_lc (own := [("row", 5)]) (g := gName 5) (tt := tYes) rfl sc_law_right.nd (kpi_list (K := K) rfl (pv 1)) (blkOk_by (own := [("row", 5)]) (N := ["members", "rows", "handed", "told", "due", "row", "k", "counts"]) (sc := defScope s_law_right) (by decide +kernel)) (fun _ _ _ _ _ => (pg_name (i := 5) sc_law_right.nd rfl (Or.inl rfl))) (fun _ _ _ _ _ => pts_nil) (fun _ _ _ _ _ => (pe_callTy (T := "tuple") (kx_tuple (K := K) rfl) (by rfl) T.z_tuple (by decide +kernel) (pa_cons (pv 5) (pa_nil))))) (nomark _)))))))), ?_⟩
    rcases h with ⟨m, R, a, rs, xs, css, rfl, h2, h5, hr, hrs, ha, hc, ho, hl, k⟩
    have hz := hc.1
    have hz2 := hrs.1
    walk_at "rdn"
    intro r dz v H1 s1 e1 e2
    walk_at "rdn"
    intro p hp
    walk_at "rdn"
    refine q_rep (xs := [V.int 0]) upd_same (by omega) (by omega) (line_of (by simp only [List.length_cons, List.length_nil]; omega)) ?_
    rw [rep0]
    intro w hw
    walk_at "rdn"
    refine for_list (K := K) (a := R) (xs := rs) (fun i σ H9 => ∃ (q : Addr) (u1 u2 u3 : Option V), σ = [some (.int m), some (.ref R), some (.ref a), some (.ref r), some (.ref q), u1, u2, u3] ∧ Same H1 H9 ∧ H9 q = some (.lst (((css.take i).foldl (List.zipWith max) (List.replicate m.toNat 0)).map V.int))) ⟨w, none, none, none, rfl, by walk_at "sm", upd_same⟩ (fun i σ H9 _ h => by obtain ⟨_, _, _, _, _, h, _⟩ := h; exact SqL.of (h _ _ (s1 _ _ hr))) ?_ ?_
    · rintro i y σ H9 hy ⟨q, u1, u2, u3, rfl, s9, f1⟩
      have hi := (List.getElem?_eq_some_iff.mp hy).1
      obtain ⟨p2, rfl, q1⟩ := (hrs.2 i y hy).same (s1.trans s9)
      obtain ⟨o1, o2⟩ := fold_ok ho i (by omega)
      obtain ⟨o3, o4⟩ := ok_getD ho (i := i) (by omega)
      have o5 := fold_step (z := List.replicate m.toNat 0) (css := css) (i := i) (by omega)
      generalize (css.take i).foldl (List.zipWith max) (List.replicate m.toNat 0) = F at f1 o1 o2 o5
      generalize css.getD i [] = c at q1 o3 o4 o5
      walk_at "rdn"
      intro D hD
      refine lc_rangeI (fun j => max (F.getD j 0) (c.getD j 0)) (by omega) hD (fun j hj H2 R2 s2 hR2 => ?_) (fun H2 s2 e => ?_)
      · walk_at "rdn"
        exact hR2 _ (Same.refl _)
      · rw [← o1, range_zip (g := max) (ms := F) (ns := c) (by omega), ← o5] at e
        walk_at "rdn"
        exact ⟨D, _, _, _, rfl, s9.trans s2, e⟩
    · rintro σ H9 ⟨q, u1, u2, u3, rfl, s91, f1⟩
      rw [List.take_of_length_le (by omega)] at f1
      unfold joinAll at e2
      have g1 := same_at s91 e1
      have g2 := same_at s91 e2
      have s9 := s1.trans s91
      have hR9 := same_at s9 hr
      clear e1 e2 hp hw s1 s91
      have ha0 := ha
      rcases ha with ha | ha
      · walk_at "rdn"
        intro l hl9
        walk_at "rdn"
        have s10 : Same H (upd H9 l (.tup (List.map V.int (List.foldl (List.zipWith max) (List.replicate m.toNat 0) css)))) := s9.trans (Same.new hl9)
        generalize upd H9 l (.tup (List.map V.int (List.foldl (List.zipWith max) (List.replicate m.toNat 0) css))) = HA at s10 ⊢
        clear s9 hl9 f1 g1 g2 hR9
        have s9 := s10
        have hR9 := same_at s9 hr
        refine q_seqL ?_
        walk_at "rdn"
        intro D hD
        refine lc_each (walk_list (K := K) (a := a) (xs := xs)) (fun k y H => TupD D H y (css.getD k [])) (by omega) (fun k y H H' h s => h.same s) (fun k y H acc h => h.upd) (fun H' s => SqL.of (s _ _ (s9 _ _ ha))) hD ?_ ?_
        · rintro k x H2 H' S hk s2 ⟨ys, d2⟩ ⟨rfl, hx⟩ hS
          obtain ⟨p, dx, t, rfl, q1, q2⟩ := (hc.2 k x hx).same (s9.trans s2)
          walk_at "rdn"
          exact hS _ _ (Same.refl _) ⟨t, rfl, (fun e => by rw [e, d2] at q2; cases q2), q2⟩
        · intro ys H2 s2 hlen hP d2
          have A1 : At2 (TupAt H2) ys css := ⟨by omega, fun k y e => (hP k y e).at⟩
          clear hP
          have f9 := (hrs.mono fun x c h => h.same s9).mono fun x c h => h.same s2
          have hR2 := same_at s2 hR9
          walk_at "rdn"
          intro D2 hD2
          refine lc_each (walk_list (K := K) (a := R) (xs := rs)) (fun k y H => TupD D2 H y (css.getD k [])) (by omega) (fun k y H H' h s => h.same s) (fun k y H acc h => h.upd) (fun H' s => SqL.of (s _ _ hR2)) hD2 ?_ ?_
          · rintro k x H3 H' S hk s3 ⟨zs, d3⟩ ⟨rfl, hx⟩ hS
            obtain ⟨p, rfl, q1⟩ := (f9.2 k x hx).same s3
            walk_at "rdn"
            intro t ht
            exact hS _ _ (Same.new ht) ⟨t, rfl, by walk_at "ne", upd_same⟩
          · intro zs H3 s3 hlen2 hP2 d3
            have A2 : At2 (TupAt H3) zs css := ⟨by omega, fun k y e => (hP2 k y e).at⟩
            have A1' := A1.mono fun x c h => h.same s3
            clear hP2
            walk_at "rdn"
            refine q_eqDt (.lst (SqL.of (s3 _ _ d2)) (DpTups A1')) (.lst (SqL.of d3) (DpTups A2)) sh_tups sh_tups eqv_tups ?_
            exact k _ ((s9.trans s2).trans s3)
      · walk_at "rdn"
        intro l hl9
        walk_at "rdn"
        have s10 : Same H (upd H9 l (.tup (List.map V.int (List.foldl (List.zipWith max) (List.replicate m.toNat 0) css)))) := s9.trans (Same.new hl9)
        generalize upd H9 l (.tup (List.map V.int (List.foldl (List.zipWith max) (List.replicate m.toNat 0) css))) = HA at s10 ⊢
        clear s9 hl9 f1 g1 g2 hR9
        have s9 := s10
        have hR9 := same_at s9 hr
        refine q_seqT ?_
        walk_at "rdn"
        intro D hD
        refine lc_each (walk_tup (K := K) (a := a) (xs := xs)) (fun k y H => TupD D H y (css.getD k [])) (by omega) (fun k y H H' h s => h.same s) (fun k y H acc h => h.upd) (fun H' s => SqT.of (s _ _ (s9 _ _ ha))) hD ?_ ?_
        · rintro k x H2 H' S hk s2 ⟨ys, d2⟩ ⟨rfl, hx⟩ hS
          obtain ⟨p, dx, t, rfl, q1, q2⟩ := (hc.2 k x hx).same (s9.trans s2)
          walk_at "rdn"
          exact hS _ _ (Same.refl _) ⟨t, rfl, (fun e => by rw [e, d2] at q2; cases q2), q2⟩
        · intro ys H2 s2 hlen hP d2
          have A1 : At2 (TupAt H2) ys css := ⟨by omega, fun k y e => (hP k y e).at⟩
          clear hP
          have f9 := (hrs.mono fun x c h => h.same s9).mono fun x c h => h.same s2
          have hR2 := same_at s2 hR9
          walk_at "rdn"
          intro D2 hD2
          refine lc_each (walk_list (K := K) (a := R) (xs := rs)) (fun k y H => TupD D2 H y (css.getD k [])) (by omega) (fun k y H H' h s => h.same s) (fun k y H acc h => h.upd) (fun H' s => SqL.of (s _ _ hR2)) hD2 ?_ ?_
          · rintro k x H3 H' S hk s3 ⟨zs, d3⟩ ⟨rfl, hx⟩ hS
            obtain ⟨p, rfl, q1⟩ := (f9.2 k x hx).same s3
            walk_at "rdn"
            intro t ht
            exact hS _ _ (Same.new ht) ⟨t, rfl, by walk_at "ne", upd_same⟩
          · intro zs H3 s3 hlen2 hP2 d3
            have A2 : At2 (TupAt H3) zs css := ⟨by omega, fun k y e => (hP2 k y e).at⟩
            have A1' := A1.mono fun x c h => h.same s3
            clear hP2
            walk_at "rdn"
            refine q_eqDt (.lst (SqL.of (s3 _ _ d2)) (DpTups A1')) (.lst (SqL.of d3) (DpTups A2)) sh_tups sh_tups eqv_tups ?_
            exact k _ ((s9.trans s2).trans s3)
theorem ok_law (T : Tx K mg) : FnOk P w K mg base CX0 8 T.f_law T.d_law ["script"] (sp_law K) := by
  refine T.F_law.ok sc_law (fun vs H Q E h => ?_) (fun cdv A outer s H vs Q E hr h => ?_)
  · rcases h with ⟨a, ns, rfl, hs, hl, k⟩
    all_goals rfl
  · have hu := hu_of hr
    refine ⟨_, (pss_cons (ps_set (i := 1) sc_law.nd rfl (Or.inl rfl) (pe_op op_add pe_int (pe_op op_mod (pe_call (ok_law_cell_at (P := P) T) (hr.mono (by decide)) rfl T.m_law_cell_at T.k_law_cell_at T.b_law_cell_at .nil pass0 (pa_cons (pv 0) (pa_cons pe_int (pa_nil)))) pe_int)))
      (pss_cons (ps_set (i := 2) sc_law.nd rfl (Or.inl rfl) (pe_op op_mod (pe_op op_fdivW (pe_call (ok_law_cell_at (P := P) T) (hr.mono (by decide)) rfl T.m_law_cell_at T.k_law_cell_at T.b_law_cell_at .nil pass0 (pa_cons (pv 0) (pa_cons pe_int (pa_nil)))) pe_int) pe_int))
      (pss_cons (ps_if (pt_cmpR op_eq (pe_op op_mod (pe_op op_fdivW (pe_call (ok_law_cell_at (P := P) T) (hr.mono (by decide)) rfl T.m_law_cell_at T.k_law_cell_at T.b_law_cell_at .nil pass0 (pa_cons (pv 0) (pa_cons pe_int (pa_nil)))) pe_int) pe_int) pe_int (nomark _))
      (pss_one (ps_set (i := 2) sc_law.nd rfl (Or.inl rfl) (pe_op op_sub pe_int (pe_op op_mod (pe_op op_fdivW (pe_call (ok_law_cell_at (P := P) T) (hr.mono (by decide)) rfl T.m_law_cell_at T.k_law_cell_at T.b_law_cell_at .nil pass0 (pa_cons (pv 0) (pa_cons pe_int (pa_nil)))) pe_int) pe_int)))) pss_nil)
      (pss_cons (ps_set (i := 3) sc_law.nd rfl (Or.inl rfl) (pe_call (ok_law_rows (P := P) T) (hr.mono (by decide)) rfl T.m_law_rows T.k_law_rows T.b_law_rows .nil pass0 (pa_cons (pv 0) (pa_cons (pv 1) (pa_cons (pv 2) (pa_nil))))))
      (pss_cons (ps_setLc (i := 4) (own := [("row", 11)]) (g := gName 11) (tt := tYes) rfl sc_law.nd rfl rfl (sw_true rfl rfl rfl (by decide +kernel)) (kpi_list (K := K) rfl (pv 3)) (blkOk_by (own := [("row", 11)]) (N := ["script", "members", "count", "rows", "some", "other", "at", "thing", "spoilt", "flat", "number", "row", "handed"]) (sc := defScope s_law) (by decide +kernel)) (fun _ _ _ _ _ => (pg_name (i := 11) sc_law.nd rfl (Or.inl rfl))) (fun _ _ _ _ _ => pts_nil) (fun _ _ _ _ _ => (pe_make T.mk_Counts (ok_Counts_init (P := P) T) (hr.mono (by decide)) rfl T.g_Counts T.b_Counts_init .nil pass0 (pa_cons (pv 11) (pa_nil)))))
      (pss_cons (ps_if (PW.pt (pw_or (pt_not (pt_val (pe_call (ok_law_right (P := P) T) (hr.mono (by decide)) rfl T.m_law_right T.k_law_right T.b_law_right .nil pass0 (pa_cons (pv 1) (pa_cons (pv 3) (pa_cons (pv 4) (pa_nil))))))) (pw_or1 (pt_not (pt_val (pe_call (ok_law_right (P := P) T) (hr.mono (by decide)) rfl T.m_law_right T.k_law_right T.b_law_right .nil pass0 (pa_cons (pv 1) (pa_cons (kp_revL (K := K) rfl (pv 3)) (pa_cons (pe_callTy (T := "tuple") (kx_tuple (K := K) rfl) (by rfl) T.z_tuple (by decide +kernel) (pa_cons (kp_revL (K := K) rfl (pv 4)) (pa_nil))) (pa_nil))))))))))
      (pss_one (ps_ret pe_bl)) pss_nil)
      (pss_cons (ps_set (i := 5) sc_law.nd rfl (Or.inl rfl) (pe_op op_add pe_int (pe_op op_mod (pe_op op_sub (pv 1) pe_int) pe_int)))
      (pss_cons (ps_if (PW.pt (pw_or (pt_not (pt_val (pe_call (ok_law_right (P := P) T) (hr.mono (by decide)) rfl T.m_law_right T.k_law_right T.b_law_right .nil pass0 (pa_cons (pv 5) (pa_cons (pe_lst (pa_cons (pe_op op_rep (pe_lst (pa_cons pe_int (pa_nil))) (pv 5)) (pa_nil))) (pa_cons (pe_lst (pa_cons (pe_make T.mk_Counts (ok_Counts_init (P := P) T) (hr.mono (by decide)) rfl T.g_Counts T.b_Counts_init .nil pass0 (pa_cons (pe_op op_rep (pe_lst (pa_cons pe_int (pa_nil))) (pv 5)) (pa_nil))) (pa_nil))) (pa_nil))))))) (pw_or1 (pt_not (pt_val (pe_call (ok_law_right (P := P) T) (hr.mono (by decide)) rfl T.m_law_right T.k_law_right T.b_law_right .nil pass0 (pa_cons (pv 5) (pa_cons (pe_lst pa_nil) (pa_cons (pe_lst pa_nil) (pa_nil))))))))))
      (pss_one (ps_ret pe_bl)) pss_nil)
      (pss_cons (ps_set (i := 6) sc_law.nd rfl (Or.inl rfl) (pe_op op_mod (pe_call (ok_law_cell_at (P := P) T) (hr.mono (by decide)) rfl T.m_law_cell_at T.k_law_cell_at T.b_law_cell_at .nil pass0 (pa_cons (pv 0) (pa_cons pe_int (pa_nil)))) (pe_op op_add (pe_callB (id := "len") (kx_len (K := K) rfl) (by rfl) T.z_len (by decide +kernel) (pa_cons (pv 4) (pa_nil))) pe_int)))
      (pss_cons (ps_for PassesOwn.never rfl (kpi_list (K := K) rfl (pe_lst (pa_cons pe_non (pa_cons pe_int (pa_cons (pe_tup (pa_cons pe_int (pa_cons pe_int (pa_nil)))) (pa_cons (pe_lst (pa_cons pe_int (pa_cons pe_int (pa_nil)))) (pa_cons pe_str (pa_cons (pe_make T.mk_Counts (ok_Counts_init (P := P) T) (hr.mono (by decide)) rfl T.g_Counts T.b_Counts_init .nil pass0 (pa_cons (pe_op op_rep (pe_lst (pa_cons pe_int (pa_nil))) (pv 5)) (pa_nil))) (pa_cons pe_bl (pa_nil)))))))))) (pg_name (i := 7) sc_law.nd rfl (Or.inl rfl))
      (pss_cons (ps_set (i := 8) sc_law.nd rfl (Or.inl rfl) (pe_op op_cat (pe_op op_cat (pe_slice (ks_list (K := K) rfl) (pv 4) po_none (po_some (pe_callB (id := "min") (call_minA rfl) (by rfl) T.z_min (by decide +kernel) (pa_cons (pv 6) (pa_cons pe_int (pa_nil)))))) (pe_lst (pa_cons (pv 7) (pa_nil)))) (pe_slice (ks_list (K := K) rfl) (pv 4) (po_some (pe_op op_add (pv 6) pe_int)) po_none)))
      (pss_cons (ps_set (i := 9) sc_law.nd rfl (Or.inl rfl) (pe_callTy (T := "tuple") (kx_tuple (K := K) rfl) (by rfl) T.z_tuple (by decide +kernel) (pa_cons (pv 8) (pa_nil))))
      (pss_cons (ps_if (PW.pt (pw_or (pt_cmpR (op_neX rfl (room128 hr)) (pe_call (ok_law_first (P := P) T) (hr.mono (by decide)) rfl T.m_law_first T.k_law_first T.b_law_first .nil pass0 (pa_cons (pv 1) (pa_cons (pv 8) (pa_nil)))) (pe_tup (pa_cons pe_str (pa_cons (pv 8) (pa_nil)))) (nomark _)) (pw_or1 (pt_cmpR (op_neX rfl (room128 hr)) (pe_call (ok_law_first (P := P) T) (hr.mono (by decide)) rfl T.m_law_first T.k_law_first T.b_law_first .nil pass0 (pa_cons (pv 1) (pa_cons (pv 9) (pa_nil)))) (pe_tup (pa_cons pe_str (pa_cons (pv 9) (pa_nil)))) (nomark _)))))
      (pss_one (ps_ret pe_bl)) pss_nil)
      (pss_one (ps_for PassesOwn.never rfl (kpi_list (K := K) rfl (pe_lst (pa_cons pe_int (pa_cons pe_int (pa_cons pe_int (pa_cons (pe_un un_neg pe_int) (pa_cons pe_non (pa_cons pe_bl (pa_cons pe_str (pa_cons (pe_lst (pa_cons pe_int (pa_nil))) (pa_cons (pe_op op_pow pe_int pe_int) (pa_cons (pe_make T.mk_Counts (ok_Counts_init (P := P) T) (hr.mono (by decide)) rfl T.g_Counts T.b_Counts_init .nil pass0 (pa_cons (pe_lst (pa_cons pe_int (pa_cons pe_int (pa_nil)))) (pa_nil))) (pa_nil))))))))))))) (pg_name (i := 10) sc_law.nd rfl (Or.inr rfl))
      (pss_one (ps_if (pt_cmpR (op_neX rfl (room128 hr)) (pe_lc (own := [("handed", 12)]) (g := gName 12) rfl sc_law.nd (kpi_tup (K := K) rfl (pe_tup (pa_cons (pv 9) (pa_cons (pe_lst pa_nil) (pa_cons pe_non (pa_nil)))))) (blkOk_by (own := [("handed", 12)]) (N := ["script", "members", "count", "rows", "some", "other", "at", "thing", "spoilt", "flat", "number", "row", "handed"]) (sc := defScope s_law) (by decide +kernel)) (fun _ _ _ _ _ => (pg_name (i := 12) sc_law.nd rfl (Or.inl rfl))) (fun _ _ _ _ _ => (pts_one (pt_cmpR (op_neX rfl (room128 hr)) (pe_call (ok_law_first (P := P) T) (hr.mono (by decide)) rfl T.m_law_first T.k_law_first T.b_law_first .nil pass0 (pa_cons (pv 10) (pa_cons (pv 12) (pa_nil)))) (pe_tup (pa_cons pe_str (pa_cons (pv 10) (pa_nil)))) (nomark _)))) (fun _ _ _ _ _ => pe_int)) (pe_lst pa_nil) (nomark _))
      (pss_one (ps_ret pe_bl)) pss_nil))))))))
      (pss_cons (ps_for PassesOwn.never rfl (kpi_list (K := K) rfl (pe_lst (pa_cons pe_non (pa_cons pe_int (pa_cons pe_str (pa_cons pe_dnewK (pa_cons pe_bl (pa_cons (pe_make T.mk_Counts (ok_Counts_init (P := P) T) (hr.mono (by decide)) rfl T.g_Counts T.b_Counts_init .nil pass0 (pa_cons (pe_op op_rep (pe_lst (pa_cons pe_int (pa_nil))) (pv 1)) (pa_nil))) (pa_nil))))))))) (pg_name (i := 7) sc_law.nd rfl (Or.inl rfl))
      (pss_one (ps_if (pt_cmpR (op_neX rfl (room128 hr)) (pe_call (ok_law_first (P := P) T) (hr.mono (by decide)) rfl T.m_law_first T.k_law_first T.b_law_first .nil pass0 (pa_cons (pv 1) (pa_cons (pv 7) (pa_nil)))) (pe_tup (pa_cons pe_str (pa_cons (pv 7) (pa_nil)))) (nomark _))
      (pss_one (ps_ret pe_bl)) pss_nil)))
      (pss_one (ps_ret (pe_call (ok_law_right (P := P) T) (hr.mono (by decide)) rfl T.m_law_right T.k_law_right T.b_law_right .nil pass0 (pa_cons (pv 1) (pa_cons (pv 3) (pa_cons (pv 4) (pa_nil)))))))))))))))))), ?_⟩
    rcases h with ⟨a, ns, rfl, hs, hl, k⟩
    walk_at "rdn"
    intro c1
    walk_at "rdn"
    intro c2
    walk_at "rdn"
    intro c3
    obtain ⟨m, hm⟩ : ∃ m, m = 2 + c1 % 4 := ⟨_, rfl⟩
    rw [← hm]
    have h2 : 2 ≤ m := by omega
    have h5 : m ≤ 5 := by omega
    clear hm
    walk_at "rdn"
    refine q_ifx (fun _ => ?_) (fun _ => ?_)
    · walk_at "rdn"
      intro c9
      walk_at "rdn"
      obtain ⟨n, hn⟩ : ∃ n, n = 500 - c9 / 256 % 20 := ⟨_, rfl⟩
      rw [← hn]
      have hn0 : 0 ≤ n := by omega
      have hn5 : n ≤ 500 := by omega
      clear hn
      walk_at "rdn"
      intro R rs css H1 s1 hR hrs hok hlen
      walk_at "rdn"
      intro D hD
      refine lc_each (walk_list (K := K) (a := R) (xs := rs)) (fun k y H => CtD T.C_Counts D H y (css.getD k [])) (by have := hrs.1; omega) (fun k y H H' h s => h.same s) (fun k y H acc h => h.upd) (fun H' s => SqL.of (s _ _ hR)) hD ?_ ?_
      · rintro k x H2 H' S hk s2 ⟨ys, d2⟩ ⟨rfl, hx⟩ hS
        obtain ⟨p, rfl, q1⟩ := (hrs.2 k x hx).same s2
        obtain ⟨o3, o4⟩ := ok_getD hok (i := k) (by have := hrs.1; omega)
        have nn := NN.of o4
        walk_at "rdn"
        intro x dx nx ndx nex
        walk_at "rdn"
        intro t H3 f3 g1 g2
        have sS : Same H' H3 := fun b o eb => f3 b o (by walk_at "ne") (by walk_at "lk")
        have d3 := same_at sS d2
        have nxD : x ≠ D := by walk_at "ne"
        have ntD : t ≠ D := (fun e => by rw [e, d3] at g2; cases g2)
        exact ⟨rfl, hS _ _ sS ⟨x, dx, t, rfl, nxD, ntD, g1, g2⟩⟩
      · intro ys H2 s2 hlen2 hP d2
        have hrl := hrs.1
        have hcl : css.length ≤ 2000 := by omega
        have hc : At2 (CtAt T.C_Counts H2) ys css := ⟨by omega, fun k y e => (hP k y e).at⟩
        have hr2 := hrs.mono fun x c h => h.same s2
        have hR2 := same_at s2 hR
        have hL : LT H2 D ys := .inl d2
        have hs2 := (s1.trans s2).seq hs
        clear hP hrs hR s1 s2 hD hs
        walk_at "rdn"
        intro H3 s3
        walk_at "rdn"
        intro p1 hp1
        walk_at "rdn"
        intro p2 hp2
        walk_at "rdn"
        intro p3 hp3
        walk_at "rdn"
        have s4 : Same H2 (upd (upd (upd H3 p1 (.lst rs.reverse)) p2 (.lst ys.reverse)) p3 (.tup ys.reverse)) := ((s3.trans (Same.new hp1)).trans (Same.new hp2)).trans (Same.new hp3)
        refine r_law_right rfl (h2 := h2) (h5 := h5) (hr := by walk_at "lk") (hrs := (hr2.mono fun x c h => h.same s4).rev) (ha := .inr upd_same) (hc := (hc.mono fun x c h => h.same s4).rev) (ho := hok.rev) (hl := by rw [List.length_reverse]; exact hcl) ?_
        intro H4 s5
        have s6 := s4.trans s5
        clear hp1 hp2 hp3 s3 s4 s5
        obtain ⟨o, ho⟩ : ∃ o, o = 2 + (m - 1) % 4 := ⟨_, rfl⟩
        have o2 : 2 ≤ o := by omega
        have o5 : o ≤ 5 := by omega
        have om : o ≠ m := by omega
        walk_at "rdn"
        rw [← ho]
        clear ho
        intro p4 hp4
        walk_at "rdn"
        refine q_rep (xs := [V.int 1]) upd_same (by omega) (by omega) (line_of (by simp only [List.length_cons, List.length_nil]; omega)) ?_
        rw [rep1]
        intro w1 hw1
        walk_at "rdn"
        intro l1 hl1
        walk_at "rdn"
        intro p5 hp5
        walk_at "rdn"
        refine q_rep (xs := [V.int 1]) upd_same (by omega) (by omega) (line_of (by simp only [List.length_cons, List.length_nil]; omega)) ?_
        rw [rep1]
        intro w2 hw2
        walk_at "rdn"
        intro x1 dx1 nx1 ndx1 nex1
        refine r_Counts_init rfl (hp := upd_same) (ha := by walk_at "lk") (hl := by simp; omega) (hl2 := by simp; omega) (hn := nn1) ?_
        intro t1 H5 f5 g1 g2
        have z1 : H5 l1 = some (.lst [.ref w1]) := f5 _ _ (by walk_at "ne") (by walk_at "lk")
        have z2 : H5 w1 = some (.lst ((List.replicate o.toNat (1 : Int)).map V.int)) := f5 _ _ (by walk_at "ne") (by walk_at "lk")
        have s7 : Same H4 H5 := fun b q eb => f5 b q (by walk_at "ne") (by walk_at "lk")
        have s8 := s6.trans s7
        clear f5 hp4 hw1 hl1 hp5 hw2 nx1 ndx1 nex1 s6 s7
        refine ⟨rfl, ?_⟩
        walk_at "rdn"
        intro l2 hl2
        walk_at "rdn"
        have s9 := s8.trans (Same.new (o := .lst [.ref x1]) hl2)
        refine r_law_right rfl (h2 := o2) (h5 := o5) (rs := [.ref w1]) (xs := [.ref x1]) (css := [List.replicate o.toNat 1]) (hr := by walk_at "lk") (hrs := At2.cons ⟨w1, rfl, by walk_at "lk"⟩ At2.nil) (ha := .inl upd_same) (hc := At2.cons ⟨x1, dx1, t1, rfl, by walk_at "lk", by walk_at "lk"⟩ At2.nil) (ho := fun c hc => by rw [List.mem_singleton.mp hc]; exact ⟨by simp, fun n hn => by have := List.eq_of_mem_replicate hn; omega⟩) (hl := by simp) ?_
        intro H6 s10
        have s11 := s9.trans s10
        clear s8 s9 s10 z1 z2 g1 g2 hl2
        walk_at "rdn"
        intro l3 hl3
        walk_at "rdn"
        intro l4 hl4
        walk_at "rdn"
        have s12 := (s11.trans (Same.new (o := .lst []) hl3)).trans (Same.new (o := .lst []) hl4)
        refine r_law_right rfl (h2 := o2) (h5 := o5) (rs := []) (xs := []) (css := []) (hr := by walk_at "lk") (hrs := At2.nil) (ha := .inl upd_same) (hc := At2.nil) (ho := fun c hc => by simp at hc) (hl := by decide) ?_
        intro H7 s13
        have s14 := s12.trans s13
        clear s11 s12 s13 hl3 hl4
        have hs7 := s14.seq hs2
        have hD7 := same_at s14 d2
        walk_at "rdn"
        intro c4
        walk_at "rdn"
        obtain ⟨e, he⟩ : ∃ e : Int, e = c4 % (↑ys.length + 1) := ⟨_, rfl⟩
        have he0 : 0 ≤ e := by rw [he]; exact Int.emod_nonneg _ (by omega)
        rw [← he]
        clear he
        intro p6 hp6
        walk_at "rdn"
        intro p7 hp7
        walk_at "rdn"
        intro p8 hp8
        walk_at "rdn"
        refine q_rep (xs := [V.int 1]) upd_same (by omega) (by omega) (line_of (by simp only [List.length_cons, List.length_nil]; omega)) ?_
        rw [rep1]
        intro w3 hw3
        walk_at "rdn"
        intro x2 dx2 nx2 ndx2 nex2
        refine r_Counts_init rfl (hp := upd_same) (ha := by walk_at "lk") (hl := by simp; omega) (hl2 := by simp; omega) (hn := nn1) ?_
        intro t2 H8 f8 g1 g2
        have z1 : H8 p6 = some (.tup [.int 1, .int 2]) := f8 _ _ (by walk_at "ne") (by walk_at "lk")
        have z2 : H8 p7 = some (.lst [.int 1, .int 2]) := f8 _ _ (by walk_at "ne") (by walk_at "lk")
        have s15 : Same H7 H8 := fun b q eb => f8 b q (by walk_at "ne") (by walk_at "lk")
        have s16 := s14.trans s15
        clear f8 hp6 hp7 hp8 hw3 nx2 ndx2 nex2 s14 s15 hs7 hD7
        refine ⟨rfl, ?_⟩
        walk_at "rdn"
        intro l5 hl5
        walk_at "rdn"
        obtain ⟨TH, hTH⟩ : ∃ l : List V, l = [V.non, V.int 7, V.ref p6, V.ref p7, V.str (Str.ofString "1 2"), V.ref x2, V.bl true] := ⟨_, rfl⟩
        have s17 := s16.trans (Same.new (o := .lst TH) hl5)
        have F5 : upd H8 l5 (.lst TH) l5 = some (.lst TH) := upd_same
        have y1 : upd H8 l5 (.lst TH) p6 = some (.tup [.int 1, .int 2]) := by walk_at "lk"
        have y2 : upd H8 l5 (.lst TH) p7 = some (.lst [.int 1, .int 2]) := by walk_at "lk"
        have y3 : upd H8 l5 (.lst TH) x2 = some (.ins T.C_Counts dx2 [("_numbers", .ref t2)]) := by walk_at "lk"
        have y4 : upd H8 l5 (.lst TH) t2 = some (.tup ((List.replicate o.toNat (1 : Int)).map V.int)) := by walk_at "lk"
        rw [← hTH]
        generalize upd H8 l5 (.lst TH) = H9 at s17 F5 y1 y2 y3 y4 ⊢
        clear s16 hl5 z1 z2 g1 g2
        have hb : ∀ x ∈ TH, ItB K T.C_Counts H9 m.toNat x false := by
          intro x hx
          rw [hTH] at hx
          simp only [List.mem_cons, List.not_mem_nil, or_false] at hx
          rcases hx with rfl | rfl | rfl | rfl | rfl | rfl | rfl
          all_goals first | exact .inl ⟨x2, dx2, t2, _, rfl, y3, y4, by simp; omega, (decide_eq_false (by simp; omega)).symm⟩ | (refine' ItB.no ?h1 ?h2; (case h1 => walk_at "tyx"); (case h2 => walk_at "kit"))
        have hTl : TH.length = 7 := by rw [hTH]; rfl
        clear y1 y2 y3 y4 hTH
        refine for_list (K := K) (a := l5) (xs := TH) (fun i σ H' => (∃ u7 u8 u9 u10 u11 u12 : Option V, σ = [some (.ref a), some (.int m), some (.int n), some (.ref R), some (.ref D), some (.int o), some (.int e), u7, u8, u9, u10, u11, u12]) ∧ Same H9 H') ⟨⟨none, none, none, none, none, none, rfl⟩, Same.refl _⟩ (fun i σ H' _ h => SqL.of (h.2 _ _ F5)) ?_ ?_
        · rintro i z σ H10 hz ⟨⟨u7, u8, u9, u10, u11, u12, rfl⟩, s18⟩
          have hbz := (hb z (List.mem_of_getElem? hz)).same s18
          have d10 := same_at (s17.trans s18) d2
          have hc10 := hc.mono fun x c h => h.same (s17.trans s18)
          have hm10 := CtMem (K := K) hc10 hok (by omega)
          clear hc10 hb
          walk_at "rdn"
          have c1 := cutV_le (xs := ys) (lo := none) (hi := some (min e 499))
          have c2 := cutV_le (xs := ys) (lo := some (e + 1)) (hi := none)
          have hI := ((ItsB.mem fun x hx => hm10 x (cutV_mem (lo := none) (hi := some (min e 499)) hx)).app (ItsB.one hbz)).app (ItsB.mem fun x hx => hm10 x (cutV_mem (lo := some (e + 1)) (hi := none) hx))
          generalize cutV ys none (some (min e 499)) = X1 at c1 hI ⊢
          intro g1 hg1
          walk_at "rdn"
          intro g2 hg2
          walk_at "rdn"
          intro g3 hg3
          walk_at "rdn"
          generalize cutV ys (some (e + 1)) none = X2 at c2 hI ⊢
          intro g4 hg4
          walk_at "rdn"
          intro g5 hg5
          walk_at "rdn"
          intro f hf
          walk_at "rdn"
          have hXl : (X1 ++ [z] ++ X2).length ≤ 2000 := by simp only [List.length_append, List.length_cons, List.length_nil]; omega
          have hIx : (List.replicate X1.length true ++ [false] ++ List.replicate X2.length true).all id = false := by simp
          generalize List.replicate X1.length true ++ [false] ++ List.replicate X2.length true = bs at hI hIx
          have h0 : H10 g5 = none := upd_free (upd_free (upd_free (upd_free hg5)))
          have sA : Same H10 (upd (upd (upd (upd (upd (upd H10 g1 (.lst X1)) g2 (.lst [z])) g3 (.lst (X1 ++ [z]))) g4 (.lst X2)) g5 (.lst (X1 ++ [z] ++ X2))) f (.tup (X1 ++ [z] ++ X2))) := (((((Same.new hg1).trans (Same.new hg2)).trans (Same.new hg3)).trans (Same.new hg4)).trans (Same.new hg5)).trans (Same.new hf)
          have A5 : upd (upd (upd (upd (upd (upd H10 g1 (.lst X1)) g2 (.lst [z])) g3 (.lst (X1 ++ [z]))) g4 (.lst X2)) g5 (.lst (X1 ++ [z] ++ X2))) f (.tup (X1 ++ [z] ++ X2)) g5 = some (.lst (X1 ++ [z] ++ X2)) := by walk_at "lk"
          have A6 : upd (upd (upd (upd (upd (upd H10 g1 (.lst X1)) g2 (.lst [z])) g3 (.lst (X1 ++ [z]))) g4 (.lst X2)) g5 (.lst (X1 ++ [z] ++ X2))) f (.tup (X1 ++ [z] ++ X2)) f = some (.tup (X1 ++ [z] ++ X2)) := upd_same
          generalize upd (upd (upd (upd (upd (upd H10 g1 (.lst X1)) g2 (.lst [z])) g3 (.lst (X1 ++ [z]))) g4 (.lst X2)) g5 (.lst (X1 ++ [z] ++ X2))) f (.tup (X1 ++ [z] ++ X2)) = HA at sA A5 A6 ⊢
          clear hg1 hg2 hg3 hg4 hg5 hf c1 c2
          generalize X1 ++ [z] ++ X2 = XS at hI hXl A5 A6
          have nfg : f ≠ g5 := fun e => by rw [e, A5] at A6; cases A6
          refine r_law_first_1 rfl (h2 := h2) (h5 := h5) (ha := A5) (hb := hI.same sA) (hx := hIx) (hl := hXl) ?_
          intro r H11 f11 e1 e2
          have s11 : Same H10 H11 := fun b q eb => f11 b q (ne_of_none eb h0) (sA _ _ eb)
          have e3 : H11 f = some (.tup XS) := f11 _ _ nfg A6
          clear f11 sA A5 A6
          walk_at "rdn"
          intro q hq
          walk_at "rdn"
          refine r_law_first_2 rfl (h2 := h2) (h5 := h5) (ha := by walk_at "lk") (hb := hI.same (s11.trans (Same.new hq))) (hx := hIx) (hl := hXl) ?_
          intro r2 H12 s12 e4
          have s13 : Same H10 H12 := (s11.trans (Same.new hq)).trans s12
          have e5 : H12 f = some (.tup XS) := s12 _ _ ((upd_ne (ne_of_none e3 hq)).trans e3)
          clear s11 s12 hI hq e1 e2 e3
          walk_at "rdn"
          intro q2 hq2
          walk_at "rdn"
          intro p12 hp12
          walk_at "rdn"
          intro p13 hp13
          walk_at "rdn"
          intro x4 dx4 nx4 ndx4 nex4
          walk_at "rdn"
          intro t4 H13 f13 e6 e7
          have s14 : Same H12 H13 := fun b q eb => f13 b q (by walk_at "ne") (by walk_at "lk")
          have z1 : H13 p12 = some (.lst [.int 2]) := f13 _ _ (by walk_at "ne") (by walk_at "lk")
          clear f13 hq2 hp12 hp13 nx4 ndx4 nex4
          walk_at "rdn"
          intro l7 hl7
          walk_at "rdn"
          obtain ⟨NU, hNU⟩ : ∃ l : List V, l = [V.int 1, V.int 6, V.int 0, V.int (-2), V.non, V.bl true, V.str (Str.ofString "2"), V.ref p12, V.int (10 ^ Int.toNat 29), V.ref x4] := ⟨_, rfl⟩
          have s15 := s14.trans (Same.new (o := .lst NU) hl7)
          have F7 : upd H13 l7 (.lst NU) l7 = some (.lst NU) := upd_same
          have y1 : upd H13 l7 (.lst NU) p12 = some (.lst [.int 2]) := by walk_at "lk"
          have y3 : upd H13 l7 (.lst NU) x4 = some (.ins T.C_Counts dx4 [("_numbers", .ref t4)]) := by walk_at "lk"
          rw [← hNU]
          generalize upd H13 l7 (.lst NU) = H14 at s15 F7 y1 y3 ⊢
          have e8 := s15 _ _ e5
          have s16 := s13.trans s15
          clear s14 s15 s13 hl7 z1 e4 e5 e6 e7
          have tk3 : PySem.W.kitOne K (.ref T.C_Counts) (.type "int") = some false := kit_sub (by decide +kernel) T.ki_Counts
          have hnw : ∀ x ∈ NU, NotW K H14 x := by
            intro x hx
            rw [hNU] at hx
            simp only [List.mem_cons, List.not_mem_nil, or_false] at hx
            rcases hx with rfl | rfl | rfl | rfl | rfl | rfl | rfl | rfl | rfl | rfl
            · exact .inl ⟨_, rfl, by omega⟩
            · exact .inl ⟨_, rfl, by omega⟩
            · exact .inl ⟨_, rfl, by omega⟩
            · exact .inl ⟨_, rfl, by omega⟩
            · exact NotW.of (.base .non) kt_NoneType_int
            · exact .inr (.inl ⟨_, rfl⟩)
            · exact NotW.of (.base (.str _)) kt_str_int
            · exact NotW.of (.base (.lst y1)) kt_list_int
            · exact .inl ⟨_, rfl, by decide +kernel⟩
            · refine' NotW.of ?h1 tk3; (case h1 => walk_at "tyx")
          have hself : ∀ x ∈ NU, ∀ H, E1 K H x x true := by
            intro x hx H
            rw [hNU] at hx
            simp only [List.mem_cons, List.not_mem_nil, or_false] at hx
            rcases hx with rfl | rfl | rfl | rfl | rfl | rfl | rfl | rfl | rfl | rfl
            · exact e1_int
            · exact e1_int
            · exact e1_int
            · exact e1_int
            · exact e1_non
            · exact e1_bl
            · exact e1_str
            · exact E1.same _
            · exact e1_int
            · exact E1.same _
          clear y1 y3 hNU tk3
          refine for_list (K := K) (a := l7) (xs := NU) (fun i σ H' => (∃ u10 u11 u12 : Option V, σ = [some (.ref a), some (.int m), some (.int n), some (.ref R), some (.ref D), some (.int o), some (.int e), some z, some (.ref g5), some (.ref f), u10, u11, u12]) ∧ Same H14 H') ⟨⟨u10, u11, u12, rfl⟩, Same.refl _⟩ (fun i σ H' _ h => SqL.of (h.2 _ _ F7)) ?_ ?_
          · rintro j y σ H15 hy ⟨⟨v10, v11, v12, rfl⟩, s17⟩
            have hny := (hnw y (List.mem_of_getElem? hy)).same s17
            have fA := same_at s17 e8
            clear hnw e8
            walk_at "rdn"
            intro l8 hl8
            walk_at "rdn"
            intro tp htp
            walk_at "rdn"
            intro D3 hD3
            have hys := hself y (List.mem_of_getElem? hy)
            have sB : Same H15 (upd (upd H15 l8 (.lst [])) tp (.tup [.ref f, .ref l8, .non])) := (Same.new hl8).trans (Same.new htp)
            have b1 : upd (upd H15 l8 (.lst [])) tp (.tup [.ref f, .ref l8, .non]) tp = some (.tup [.ref f, .ref l8, .non]) := upd_same
            have b2 : upd (upd H15 l8 (.lst [])) tp (.tup [.ref f, .ref l8, .non]) l8 = some (.lst []) := by walk_at "lk"
            have b3 : upd (upd H15 l8 (.lst [])) tp (.tup [.ref f, .ref l8, .non]) f = some (.tup XS) := by walk_at "lk"
            generalize upd (upd H15 l8 (.lst [])) tp (.tup [.ref f, .ref l8, .non]) = HB at sB b1 b2 b3 hD3 ⊢
            have hnB := hny.same sB
            refine lc_it (walk_tup (K := K) (a := tp) (xs := [.ref f, .ref l8, .non])) (fun i H' => Same HB H' ∧ H' D3 = some (.lst [])) ⟨Same.new hD3, upd_same⟩ (fun i H' _ h => SqT.of (h.1 _ _ b1)) ?_ ?_
            · rintro i x H16 H' hi ⟨s20, d3⟩ ⟨rfl, hx⟩
              refine ⟨wipe_set, ?_⟩
              have hn3 := hnB.same s20
              have b2' := same_at s20 b2
              have b3' := same_at s20 b3
              have hxx := List.mem_of_getElem? hx
              simp only [List.mem_cons, List.not_mem_nil, or_false] at hxx
              clear hnB hny hself hi hx
              rcases hxx with rfl | rfl | rfl
              · walk_at "rdn"
                intro r5 H17 s19 e9
                walk_at "rdn"
                intro q5 hq5
                walk_at "rdn"
                refine q_neXT (by walk_at "sq") (by walk_at "sq") (e1s_2 e1_str (hys _)) ?_
                walk_at "rdn"
                exact ⟨(s20.trans s19).trans (Same.new hq5), by walk_at "lk"⟩
              · walk_at "rdn"
                intro r5 H17 s19 e9
                walk_at "rdn"
                intro q5 hq5
                walk_at "rdn"
                refine q_neXT (by walk_at "sq") (by walk_at "sq") (e1s_2 e1_str (hys _)) ?_
                walk_at "rdn"
                exact ⟨(s20.trans s19).trans (Same.new hq5), by walk_at "lk"⟩
              · walk_at "rdn"
                intro r5 H17 s19 e9
                walk_at "rdn"
                intro q5 hq5
                walk_at "rdn"
                refine q_neXT (by walk_at "sq") (by walk_at "sq") (e1s_2 e1_str (hys _)) ?_
                walk_at "rdn"
                exact ⟨(s20.trans s19).trans (Same.new hq5), by walk_at "lk"⟩
            · rintro H' ⟨s20, d3⟩
              walk_at "rdn"
              intro l9 hl9
              walk_at "rdn"
              refine q_neXL (xs := []) (ys := []) (SqL.of (by walk_at "lk")) (SqL.of upd_same) .nil ?_
              walk_at "rdn"
              exact ⟨⟨_, _, _, rfl⟩, s17.trans (sB.trans (s20.trans (Same.new hl9)))⟩
          · rintro σ H15 ⟨⟨v10, v11, v12, rfl⟩, s17⟩
            walk_at "rdn"
            exact ⟨⟨_, _, _, _, _, _, rfl⟩, s18.trans (s16.trans s17)⟩
        · rintro σ H10 ⟨⟨u7, u8, u9, u10, u11, u12, rfl⟩, s18⟩
          have s19 := s17.trans s18
          clear hb F5 s17 s18
          walk_at "rdn"
          intro p9 hp9
          walk_at "rdn"
          intro p10 hp10
          walk_at "rdn"
          refine q_rep (xs := [V.int 0]) upd_same (by omega) (by omega) (line_of (by simp only [List.length_cons, List.length_nil]; omega)) ?_
          rw [rep0]
          intro w4 hw4
          walk_at "rdn"
          intro x3 dx3 nx3 ndx3 nex3
          refine r_Counts_init rfl (hp := upd_same) (ha := by walk_at "lk") (hl := by simp; omega) (hl2 := by simp; omega) (hn := nn0) ?_
          intro t3 H11 f11 g1 g2
          have z1 : H11 p9 = some (.dK []) := f11 _ _ (by walk_at "ne") (by walk_at "lk")
          have s20 : Same H10 H11 := fun b q eb => f11 b q (by walk_at "ne") (by walk_at "lk")
          clear f11 hp9 hp10 hw4 nx3 ndx3 nex3
          refine ⟨rfl, ?_⟩
          walk_at "rdn"
          intro l6 hl6
          walk_at "rdn"
          obtain ⟨TH2, hTH2⟩ : ∃ l : List V, l = [V.non, V.int 7, V.str (Str.ofString ""), V.ref p9, V.bl true, V.ref x3] := ⟨_, rfl⟩
          have s21 := (s19.trans s20).trans (Same.new (o := .lst TH2) hl6)
          have F6 : upd H11 l6 (.lst TH2) l6 = some (.lst TH2) := upd_same
          have y1 : upd H11 l6 (.lst TH2) p9 = some (.dK []) := by walk_at "lk"
          have y3 : upd H11 l6 (.lst TH2) x3 = some (.ins T.C_Counts dx3 [("_numbers", .ref t3)]) := by walk_at "lk"
          rw [← hTH2]
          generalize upd H11 l6 (.lst TH2) = H12 at s21 F6 y1 y3 ⊢
          have tk1 : PySem.W.kitOne K (.ref T.C_Counts) (.type "list") = some false := kit_sub (by decide +kernel) T.kl_Counts
          have tk2 : PySem.W.kitOne K (.ref T.C_Counts) (.type "tuple") = some false := kit_sub (by decide +kernel) T.kt_Counts
          have hnl : ∀ x ∈ TH2, NotL K H12 x := by
            intro x hx
            rw [hTH2] at hx
            simp only [List.mem_cons, List.not_mem_nil, or_false] at hx
            rcases hx with rfl | rfl | rfl | rfl | rfl | rfl
            · exact NotL.of (.base .non) (ka_f kt_NoneType_list (ka_f kt_NoneType_tuple ka_nil)) kt_NoneType_list
            · exact NotL.of (.base (.int _)) (ka_f kt_int_list (ka_f kt_int_tuple ka_nil)) kt_int_list
            · exact NotL.of (.base (.str _)) (ka_f kt_str_list (ka_f kt_str_tuple ka_nil)) kt_str_list
            · exact NotL.of (.base (.dK y1)) (ka_f kt_dict_list (ka_f kt_dict_tuple ka_nil)) kt_dict_list
            · exact NotL.of (.base (.bl _)) (ka_f kt_bool_list (ka_f kt_bool_tuple ka_nil)) kt_bool_list
            · refine' NotL.of ?h1 (ka_f tk1 (ka_f tk2 ka_nil)) tk1
              (case h1 => walk_at "tyx")
          have hself : ∀ x ∈ TH2, ∀ H, E1 K H x x true := by
            intro x hx H
            rw [hTH2] at hx
            simp only [List.mem_cons, List.not_mem_nil, or_false] at hx
            rcases hx with rfl | rfl | rfl | rfl | rfl | rfl
            · exact e1_non
            · exact e1_int
            · exact e1_str
            · exact E1.same _
            · exact e1_bl
            · exact E1.same _
          have hTl2 : TH2.length = 6 := by rw [hTH2]; rfl
          clear y1 y3 hTH2 s19 s20 hl6 z1 g1 g2
          refine for_list (K := K) (a := l6) (xs := TH2) (fun i σ H' => (∃ u7 u8 u9 u10 u11 u12 : Option V, σ = [some (.ref a), some (.int m), some (.int n), some (.ref R), some (.ref D), some (.int o), some (.int e), u7, u8, u9, u10, u11, u12]) ∧ Same H12 H') ⟨⟨u7, u8, u9, u10, u11, u12, rfl⟩, Same.refl _⟩ (fun i σ H' _ h => SqL.of (h.2 _ _ F6)) ?_ ?_
          · rintro i z σ H13 hz ⟨⟨v7, v8, v9, v10, v11, v12, rfl⟩, s22⟩
            obtain ⟨tz, q1, q2, q3⟩ := (hnl z (List.mem_of_getElem? hz)).same s22
            walk_at "rdn"
            intro r H14 s23 e1
            walk_at "rdn"
            intro q hq
            walk_at "rdn"
            refine q_neXT (by walk_at "sq") (by walk_at "sq") (e1s_2 e1_str (hself z (List.mem_of_getElem? hz) _)) ?_
            walk_at "rdn"
            exact ⟨⟨_, _, _, _, _, _, rfl⟩, (s22.trans s23).trans (Same.new hq)⟩
          · rintro σ H13 ⟨⟨v7, v8, v9, v10, v11, v12, rfl⟩, s22⟩
            have s24 := s21.trans s22
            walk_at "rdn"
            refine r_law_right rfl (h2 := h2) (h5 := h5) (hr := same_at s24 hR2) (hrs := hr2.mono fun x c h => h.same s24) (ha := hL.same s24) (hc := hc.mono fun x c h => h.same s24) (ho := hok) (hl := hcl) ?_
            intro H14 s25
            walk_at "rdn"
            exact k _
    · obtain ⟨n, hn⟩ : ∃ n, n = c2 / 4 % 8 := ⟨_, rfl⟩
      rw [← hn]
      have hn0 : 0 ≤ n := by omega
      have hn5 : n ≤ 500 := by omega
      clear hn
      walk_at "rdn"
      intro R rs css H1 s1 hR hrs hok hlen
      walk_at "rdn"
      intro D hD
      refine lc_each (walk_list (K := K) (a := R) (xs := rs)) (fun k y H => CtD T.C_Counts D H y (css.getD k [])) (by have := hrs.1; omega) (fun k y H H' h s => h.same s) (fun k y H acc h => h.upd) (fun H' s => SqL.of (s _ _ hR)) hD ?_ ?_
      · rintro k x H2 H' S hk s2 ⟨ys, d2⟩ ⟨rfl, hx⟩ hS
        obtain ⟨p, rfl, q1⟩ := (hrs.2 k x hx).same s2
        obtain ⟨o3, o4⟩ := ok_getD hok (i := k) (by have := hrs.1; omega)
        have nn := NN.of o4
        walk_at "rdn"
        intro x dx nx ndx nex
        walk_at "rdn"
        intro t H3 f3 g1 g2
        have sS : Same H' H3 := fun b o eb => f3 b o (by walk_at "ne") (by walk_at "lk")
        have d3 := same_at sS d2
        have nxD : x ≠ D := by walk_at "ne"
        have ntD : t ≠ D := (fun e => by rw [e, d3] at g2; cases g2)
        exact ⟨rfl, hS _ _ sS ⟨x, dx, t, rfl, nxD, ntD, g1, g2⟩⟩
      · intro ys H2 s2 hlen2 hP d2
        have hrl := hrs.1
        have hcl : css.length ≤ 2000 := by omega
        have hc : At2 (CtAt T.C_Counts H2) ys css := ⟨by omega, fun k y e => (hP k y e).at⟩
        have hr2 := hrs.mono fun x c h => h.same s2
        have hR2 := same_at s2 hR
        have hL : LT H2 D ys := .inl d2
        have hs2 := (s1.trans s2).seq hs
        clear hP hrs hR s1 s2 hD hs
        walk_at "rdn"
        intro H3 s3
        walk_at "rdn"
        intro p1 hp1
        walk_at "rdn"
        intro p2 hp2
        walk_at "rdn"
        intro p3 hp3
        walk_at "rdn"
        have s4 : Same H2 (upd (upd (upd H3 p1 (.lst rs.reverse)) p2 (.lst ys.reverse)) p3 (.tup ys.reverse)) := ((s3.trans (Same.new hp1)).trans (Same.new hp2)).trans (Same.new hp3)
        refine r_law_right rfl (h2 := h2) (h5 := h5) (hr := by walk_at "lk") (hrs := (hr2.mono fun x c h => h.same s4).rev) (ha := .inr upd_same) (hc := (hc.mono fun x c h => h.same s4).rev) (ho := hok.rev) (hl := by rw [List.length_reverse]; exact hcl) ?_
        intro H4 s5
        have s6 := s4.trans s5
        clear hp1 hp2 hp3 s3 s4 s5
        obtain ⟨o, ho⟩ : ∃ o, o = 2 + (m - 1) % 4 := ⟨_, rfl⟩
        have o2 : 2 ≤ o := by omega
        have o5 : o ≤ 5 := by omega
        have om : o ≠ m := by omega
        walk_at "rdn"
        rw [← ho]
        clear ho
        intro p4 hp4
        walk_at "rdn"
        refine q_rep (xs := [V.int 1]) upd_same (by omega) (by omega) (line_of (by simp only [List.length_cons, List.length_nil]; omega)) ?_
        rw [rep1]
        intro w1 hw1
        walk_at "rdn"
        intro l1 hl1
        walk_at "rdn"
        intro p5 hp5
        walk_at "rdn"
        refine q_rep (xs := [V.int 1]) upd_same (by omega) (by omega) (line_of (by simp only [List.length_cons, List.length_nil]; omega)) ?_
        rw [rep1]
        intro w2 hw2
        walk_at "rdn"
        intro x1 dx1 nx1 ndx1 nex1
        refine r_Counts_init rfl (hp := upd_same) (ha := by walk_at "lk") (hl := by simp; omega) (hl2 := by simp; omega) (hn := nn1) ?_
        intro t1 H5 f5 g1 g2
        have z1 : H5 l1 = some (.lst [.ref w1]) := f5 _ _ (by walk_at "ne") (by walk_at "lk")
        have z2 : H5 w1 = some (.lst ((List.replicate o.toNat (1 : Int)).map V.int)) := f5 _ _ (by walk_at "ne") (by walk_at "lk")
        have s7 : Same H4 H5 := fun b q eb => f5 b q (by walk_at "ne") (by walk_at "lk")
        have s8 := s6.trans s7
        clear f5 hp4 hw1 hl1 hp5 hw2 nx1 ndx1 nex1 s6 s7
        refine ⟨rfl, ?_⟩
        walk_at "rdn"
        intro l2 hl2
        walk_at "rdn"
        have s9 := s8.trans (Same.new (o := .lst [.ref x1]) hl2)
        refine r_law_right rfl (h2 := o2) (h5 := o5) (rs := [.ref w1]) (xs := [.ref x1]) (css := [List.replicate o.toNat 1]) (hr := by walk_at "lk") (hrs := At2.cons ⟨w1, rfl, by walk_at "lk"⟩ At2.nil) (ha := .inl upd_same) (hc := At2.cons ⟨x1, dx1, t1, rfl, by walk_at "lk", by walk_at "lk"⟩ At2.nil) (ho := fun c hc => by rw [List.mem_singleton.mp hc]; exact ⟨by simp, fun n hn => by have := List.eq_of_mem_replicate hn; omega⟩) (hl := by simp) ?_
        intro H6 s10
        have s11 := s9.trans s10
        clear s8 s9 s10 z1 z2 g1 g2 hl2
        walk_at "rdn"
        intro l3 hl3
        walk_at "rdn"
        intro l4 hl4
        walk_at "rdn"
        have s12 := (s11.trans (Same.new (o := .lst []) hl3)).trans (Same.new (o := .lst []) hl4)
        refine r_law_right rfl (h2 := o2) (h5 := o5) (rs := []) (xs := []) (css := []) (hr := by walk_at "lk") (hrs := At2.nil) (ha := .inl upd_same) (hc := At2.nil) (ho := fun c hc => by simp at hc) (hl := by decide) ?_
        intro H7 s13
        have s14 := s12.trans s13
        clear s11 s12 s13 hl3 hl4
        have hs7 := s14.seq hs2
        have hD7 := same_at s14 d2
        walk_at "rdn"
        intro c4
        walk_at "rdn"
        obtain ⟨e, he⟩ : ∃ e : Int, e = c4 % (↑ys.length + 1) := ⟨_, rfl⟩
        have he0 : 0 ≤ e := by rw [he]; exact Int.emod_nonneg _ (by omega)
        rw [← he]
        clear he
        intro p6 hp6
        walk_at "rdn"
        intro p7 hp7
        walk_at "rdn"
        intro p8 hp8
        walk_at "rdn"
        refine q_rep (xs := [V.int 1]) upd_same (by omega) (by omega) (line_of (by simp only [List.length_cons, List.length_nil]; omega)) ?_
        rw [rep1]
        intro w3 hw3
        walk_at "rdn"
        intro x2 dx2 nx2 ndx2 nex2
        refine r_Counts_init rfl (hp := upd_same) (ha := by walk_at "lk") (hl := by simp; omega) (hl2 := by simp; omega) (hn := nn1) ?_
        intro t2 H8 f8 g1 g2
        have z1 : H8 p6 = some (.tup [.int 1, .int 2]) := f8 _ _ (by walk_at "ne") (by walk_at "lk")
        have z2 : H8 p7 = some (.lst [.int 1, .int 2]) := f8 _ _ (by walk_at "ne") (by walk_at "lk")
        have s15 : Same H7 H8 := fun b q eb => f8 b q (by walk_at "ne") (by walk_at "lk")
        have s16 := s14.trans s15
        clear f8 hp6 hp7 hp8 hw3 nx2 ndx2 nex2 s14 s15 hs7 hD7
        refine ⟨rfl, ?_⟩
        walk_at "rdn"
        intro l5 hl5
        walk_at "rdn"
        obtain ⟨TH, hTH⟩ : ∃ l : List V, l = [V.non, V.int 7, V.ref p6, V.ref p7, V.str (Str.ofString "1 2"), V.ref x2, V.bl true] := ⟨_, rfl⟩
        have s17 := s16.trans (Same.new (o := .lst TH) hl5)
        have F5 : upd H8 l5 (.lst TH) l5 = some (.lst TH) := upd_same
        have y1 : upd H8 l5 (.lst TH) p6 = some (.tup [.int 1, .int 2]) := by walk_at "lk"
        have y2 : upd H8 l5 (.lst TH) p7 = some (.lst [.int 1, .int 2]) := by walk_at "lk"
        have y3 : upd H8 l5 (.lst TH) x2 = some (.ins T.C_Counts dx2 [("_numbers", .ref t2)]) := by walk_at "lk"
        have y4 : upd H8 l5 (.lst TH) t2 = some (.tup ((List.replicate o.toNat (1 : Int)).map V.int)) := by walk_at "lk"
        rw [← hTH]
        generalize upd H8 l5 (.lst TH) = H9 at s17 F5 y1 y2 y3 y4 ⊢
        clear s16 hl5 z1 z2 g1 g2
        have hb : ∀ x ∈ TH, ItB K T.C_Counts H9 m.toNat x false := by
          intro x hx
          rw [hTH] at hx
          simp only [List.mem_cons, List.not_mem_nil, or_false] at hx
          rcases hx with rfl | rfl | rfl | rfl | rfl | rfl | rfl
          all_goals first | exact .inl ⟨x2, dx2, t2, _, rfl, y3, y4, by simp; omega, (decide_eq_false (by simp; omega)).symm⟩ | (refine' ItB.no ?h1 ?h2; (case h1 => walk_at "tyx"); (case h2 => walk_at "kit"))
        have hTl : TH.length = 7 := by rw [hTH]; rfl
        clear y1 y2 y3 y4 hTH
        refine for_list (K := K) (a := l5) (xs := TH) (fun i σ H' => (∃ u7 u8 u9 u10 u11 u12 : Option V, σ = [some (.ref a), some (.int m), some (.int n), some (.ref R), some (.ref D), some (.int o), some (.int e), u7, u8, u9, u10, u11, u12]) ∧ Same H9 H') ⟨⟨none, none, none, none, none, none, rfl⟩, Same.refl _⟩ (fun i σ H' _ h => SqL.of (h.2 _ _ F5)) ?_ ?_
        · rintro i z σ H10 hz ⟨⟨u7, u8, u9, u10, u11, u12, rfl⟩, s18⟩
          have hbz := (hb z (List.mem_of_getElem? hz)).same s18
          have d10 := same_at (s17.trans s18) d2
          have hc10 := hc.mono fun x c h => h.same (s17.trans s18)
          have hm10 := CtMem (K := K) hc10 hok (by omega)
          clear hc10 hb
          walk_at "rdn"
          have c1 := cutV_le (xs := ys) (lo := none) (hi := some (min e 499))
          have c2 := cutV_le (xs := ys) (lo := some (e + 1)) (hi := none)
          have hI := ((ItsB.mem fun x hx => hm10 x (cutV_mem (lo := none) (hi := some (min e 499)) hx)).app (ItsB.one hbz)).app (ItsB.mem fun x hx => hm10 x (cutV_mem (lo := some (e + 1)) (hi := none) hx))
          generalize cutV ys none (some (min e 499)) = X1 at c1 hI ⊢
          intro g1 hg1
          walk_at "rdn"
          intro g2 hg2
          walk_at "rdn"
          intro g3 hg3
          walk_at "rdn"
          generalize cutV ys (some (e + 1)) none = X2 at c2 hI ⊢
          intro g4 hg4
          walk_at "rdn"
          intro g5 hg5
          walk_at "rdn"
          intro f hf
          walk_at "rdn"
          have hXl : (X1 ++ [z] ++ X2).length ≤ 2000 := by simp only [List.length_append, List.length_cons, List.length_nil]; omega
          have hIx : (List.replicate X1.length true ++ [false] ++ List.replicate X2.length true).all id = false := by simp
          generalize List.replicate X1.length true ++ [false] ++ List.replicate X2.length true = bs at hI hIx
          have h0 : H10 g5 = none := upd_free (upd_free (upd_free (upd_free hg5)))
          have sA : Same H10 (upd (upd (upd (upd (upd (upd H10 g1 (.lst X1)) g2 (.lst [z])) g3 (.lst (X1 ++ [z]))) g4 (.lst X2)) g5 (.lst (X1 ++ [z] ++ X2))) f (.tup (X1 ++ [z] ++ X2))) := (((((Same.new hg1).trans (Same.new hg2)).trans (Same.new hg3)).trans (Same.new hg4)).trans (Same.new hg5)).trans (Same.new hf)
          have A5 : upd (upd (upd (upd (upd (upd H10 g1 (.lst X1)) g2 (.lst [z])) g3 (.lst (X1 ++ [z]))) g4 (.lst X2)) g5 (.lst (X1 ++ [z] ++ X2))) f (.tup (X1 ++ [z] ++ X2)) g5 = some (.lst (X1 ++ [z] ++ X2)) := by walk_at "lk"
          have A6 : upd (upd (upd (upd (upd (upd H10 g1 (.lst X1)) g2 (.lst [z])) g3 (.lst (X1 ++ [z]))) g4 (.lst X2)) g5 (.lst (X1 ++ [z] ++ X2))) f (.tup (X1 ++ [z] ++ X2)) f = some (.tup (X1 ++ [z] ++ X2)) := upd_same
          generalize upd (upd (upd (upd (upd (upd H10 g1 (.lst X1)) g2 (.lst [z])) g3 (.lst (X1 ++ [z]))) g4 (.lst X2)) g5 (.lst (X1 ++ [z] ++ X2))) f (.tup (X1 ++ [z] ++ X2)) = HA at sA A5 A6 ⊢
          clear hg1 hg2 hg3 hg4 hg5 hf c1 c2
          generalize X1 ++ [z] ++ X2 = XS at hI hXl A5 A6
          have nfg : f ≠ g5 := fun e => by rw [e, A5] at A6; cases A6
          refine r_law_first_1 rfl (h2 := h2) (h5 := h5) (ha := A5) (hb := hI.same sA) (hx := hIx) (hl := hXl) ?_
          intro r H11 f11 e1 e2
          have s11 : Same H10 H11 := fun b q eb => f11 b q (ne_of_none eb h0) (sA _ _ eb)
          have e3 : H11 f = some (.tup XS) := f11 _ _ nfg A6
          clear f11 sA A5 A6
          walk_at "rdn"
          intro q hq
          walk_at "rdn"
          refine r_law_first_2 rfl (h2 := h2) (h5 := h5) (ha := by walk_at "lk") (hb := hI.same (s11.trans (Same.new hq))) (hx := hIx) (hl := hXl) ?_
          intro r2 H12 s12 e4
          have s13 : Same H10 H12 := (s11.trans (Same.new hq)).trans s12
          have e5 : H12 f = some (.tup XS) := s12 _ _ ((upd_ne (ne_of_none e3 hq)).trans e3)
          clear s11 s12 hI hq e1 e2 e3
          walk_at "rdn"
          intro q2 hq2
          walk_at "rdn"
          intro p12 hp12
          walk_at "rdn"
          intro p13 hp13
          walk_at "rdn"
          intro x4 dx4 nx4 ndx4 nex4
          walk_at "rdn"
          intro t4 H13 f13 e6 e7
          have s14 : Same H12 H13 := fun b q eb => f13 b q (by walk_at "ne") (by walk_at "lk")
          have z1 : H13 p12 = some (.lst [.int 2]) := f13 _ _ (by walk_at "ne") (by walk_at "lk")
          clear f13 hq2 hp12 hp13 nx4 ndx4 nex4
          walk_at "rdn"
          intro l7 hl7
          walk_at "rdn"
          obtain ⟨NU, hNU⟩ : ∃ l : List V, l = [V.int 1, V.int 6, V.int 0, V.int (-2), V.non, V.bl true, V.str (Str.ofString "2"), V.ref p12, V.int (10 ^ Int.toNat 29), V.ref x4] := ⟨_, rfl⟩
          have s15 := s14.trans (Same.new (o := .lst NU) hl7)
          have F7 : upd H13 l7 (.lst NU) l7 = some (.lst NU) := upd_same
          have y1 : upd H13 l7 (.lst NU) p12 = some (.lst [.int 2]) := by walk_at "lk"
          have y3 : upd H13 l7 (.lst NU) x4 = some (.ins T.C_Counts dx4 [("_numbers", .ref t4)]) := by walk_at "lk"
          rw [← hNU]
          generalize upd H13 l7 (.lst NU) = H14 at s15 F7 y1 y3 ⊢
          have e8 := s15 _ _ e5
          have s16 := s13.trans s15
          clear s14 s15 s13 hl7 z1 e4 e5 e6 e7
          have tk3 : PySem.W.kitOne K (.ref T.C_Counts) (.type "int") = some false := kit_sub (by decide +kernel) T.ki_Counts
          have hnw : ∀ x ∈ NU, NotW K H14 x := by
            intro x hx
            rw [hNU] at hx
            simp only [List.mem_cons, List.not_mem_nil, or_false] at hx
            rcases hx with rfl | rfl | rfl | rfl | rfl | rfl | rfl | rfl | rfl | rfl
            · exact .inl ⟨_, rfl, by omega⟩
            · exact .inl ⟨_, rfl, by omega⟩
            · exact .inl ⟨_, rfl, by omega⟩
            · exact .inl ⟨_, rfl, by omega⟩
            · exact NotW.of (.base .non) kt_NoneType_int
            · exact .inr (.inl ⟨_, rfl⟩)
            · exact NotW.of (.base (.str _)) kt_str_int
            · exact NotW.of (.base (.lst y1)) kt_list_int
            · exact .inl ⟨_, rfl, by decide +kernel⟩
            · refine' NotW.of ?h1 tk3; (case h1 => walk_at "tyx")
          have hself : ∀ x ∈ NU, ∀ H, E1 K H x x true := by
            intro x hx H
            rw [hNU] at hx
            simp only [List.mem_cons, List.not_mem_nil, or_false] at hx
            rcases hx with rfl | rfl | rfl | rfl | rfl | rfl | rfl | rfl | rfl | rfl
            · exact e1_int
            · exact e1_int
            · exact e1_int
            · exact e1_int
            · exact e1_non
            · exact e1_bl
            · exact e1_str
            · exact E1.same _
            · exact e1_int
            · exact E1.same _
          clear y1 y3 hNU tk3
          refine for_list (K := K) (a := l7) (xs := NU) (fun i σ H' => (∃ u10 u11 u12 : Option V, σ = [some (.ref a), some (.int m), some (.int n), some (.ref R), some (.ref D), some (.int o), some (.int e), some z, some (.ref g5), some (.ref f), u10, u11, u12]) ∧ Same H14 H') ⟨⟨u10, u11, u12, rfl⟩, Same.refl _⟩ (fun i σ H' _ h => SqL.of (h.2 _ _ F7)) ?_ ?_
          · rintro j y σ H15 hy ⟨⟨v10, v11, v12, rfl⟩, s17⟩
            have hny := (hnw y (List.mem_of_getElem? hy)).same s17
            have fA := same_at s17 e8
            clear hnw e8
            walk_at "rdn"
            intro l8 hl8
            walk_at "rdn"
            intro tp htp
            walk_at "rdn"
            intro D3 hD3
            have hys := hself y (List.mem_of_getElem? hy)
            have sB : Same H15 (upd (upd H15 l8 (.lst [])) tp (.tup [.ref f, .ref l8, .non])) := (Same.new hl8).trans (Same.new htp)
            have b1 : upd (upd H15 l8 (.lst [])) tp (.tup [.ref f, .ref l8, .non]) tp = some (.tup [.ref f, .ref l8, .non]) := upd_same
            have b2 : upd (upd H15 l8 (.lst [])) tp (.tup [.ref f, .ref l8, .non]) l8 = some (.lst []) := by walk_at "lk"
            have b3 : upd (upd H15 l8 (.lst [])) tp (.tup [.ref f, .ref l8, .non]) f = some (.tup XS) := by walk_at "lk"
            generalize upd (upd H15 l8 (.lst [])) tp (.tup [.ref f, .ref l8, .non]) = HB at sB b1 b2 b3 hD3 ⊢
            have hnB := hny.same sB
            refine lc_it (walk_tup (K := K) (a := tp) (xs := [.ref f, .ref l8, .non])) (fun i H' => Same HB H' ∧ H' D3 = some (.lst [])) ⟨Same.new hD3, upd_same⟩ (fun i H' _ h => SqT.of (h.1 _ _ b1)) ?_ ?_
            · rintro i x H16 H' hi ⟨s20, d3⟩ ⟨rfl, hx⟩
              refine ⟨wipe_set, ?_⟩
              have hn3 := hnB.same s20
              have b2' := same_at s20 b2
              have b3' := same_at s20 b3
              have hxx := List.mem_of_getElem? hx
              simp only [List.mem_cons, List.not_mem_nil, or_false] at hxx
              clear hnB hny hself hi hx
              rcases hxx with rfl | rfl | rfl
              · walk_at "rdn"
                intro r5 H17 s19 e9
                walk_at "rdn"
                intro q5 hq5
                walk_at "rdn"
                refine q_neXT (by walk_at "sq") (by walk_at "sq") (e1s_2 e1_str (hys _)) ?_
                walk_at "rdn"
                exact ⟨(s20.trans s19).trans (Same.new hq5), by walk_at "lk"⟩
              · walk_at "rdn"
                intro r5 H17 s19 e9
                walk_at "rdn"
                intro q5 hq5
                walk_at "rdn"
                refine q_neXT (by walk_at "sq") (by walk_at "sq") (e1s_2 e1_str (hys _)) ?_
                walk_at "rdn"
                exact ⟨(s20.trans s19).trans (Same.new hq5), by walk_at "lk"⟩
              · walk_at "rdn"
                intro r5 H17 s19 e9
                walk_at "rdn"
                intro q5 hq5
                walk_at "rdn"
                refine q_neXT (by walk_at "sq") (by walk_at "sq") (e1s_2 e1_str (hys _)) ?_
                walk_at "rdn"
                exact ⟨(s20.trans s19).trans (Same.new hq5), by walk_at "lk"⟩
            · rintro H' ⟨s20, d3⟩
              walk_at "rdn"
              intro l9 hl9
              walk_at "rdn"
              refine q_neXL (xs := []) (ys := []) (SqL.of (by walk_at "lk")) (SqL.of upd_same) .nil ?_
              walk_at "rdn"
              exact ⟨⟨_, _, _, rfl⟩, s17.trans (sB.trans (s20.trans (Same.new hl9)))⟩
          · rintro σ H15 ⟨⟨v10, v11, v12, rfl⟩, s17⟩
            walk_at "rdn"
            exact ⟨⟨_, _, _, _, _, _, rfl⟩, s18.trans (s16.trans s17)⟩
        · rintro σ H10 ⟨⟨u7, u8, u9, u10, u11, u12, rfl⟩, s18⟩
          have s19 := s17.trans s18
          clear hb F5 s17 s18
          walk_at "rdn"
          intro p9 hp9
          walk_at "rdn"
          intro p10 hp10
          walk_at "rdn"
          refine q_rep (xs := [V.int 0]) upd_same (by omega) (by omega) (line_of (by simp only [List.length_cons, List.length_nil]; omega)) ?_
          rw [rep0]
          intro w4 hw4
          walk_at "rdn"
          intro x3 dx3 nx3 ndx3 nex3
          refine r_Counts_init rfl (hp := upd_same) (ha := by walk_at "lk") (hl := by simp; omega) (hl2 := by simp; omega) (hn := nn0) ?_
          intro t3 H11 f11 g1 g2
          have z1 : H11 p9 = some (.dK []) := f11 _ _ (by walk_at "ne") (by walk_at "lk")
          have s20 : Same H10 H11 := fun b q eb => f11 b q (by walk_at "ne") (by walk_at "lk")
          clear f11 hp9 hp10 hw4 nx3 ndx3 nex3
          refine ⟨rfl, ?_⟩
          walk_at "rdn"
          intro l6 hl6
          walk_at "rdn"
          obtain ⟨TH2, hTH2⟩ : ∃ l : List V, l = [V.non, V.int 7, V.str (Str.ofString ""), V.ref p9, V.bl true, V.ref x3] := ⟨_, rfl⟩
          have s21 := (s19.trans s20).trans (Same.new (o := .lst TH2) hl6)
          have F6 : upd H11 l6 (.lst TH2) l6 = some (.lst TH2) := upd_same
          have y1 : upd H11 l6 (.lst TH2) p9 = some (.dK []) := by walk_at "lk"
          have y3 : upd H11 l6 (.lst TH2) x3 = some (.ins T.C_Counts dx3 [("_numbers", .ref t3)]) := by walk_at "lk"
          rw [← hTH2]
          generalize upd H11 l6 (.lst TH2) = H12 at s21 F6 y1 y3 ⊢
          have tk1 : PySem.W.kitOne K (.ref T.C_Counts) (.type "list") = some false := kit_sub (by decide +kernel) T.kl_Counts
          have tk2 : PySem.W.kitOne K (.ref T.C_Counts) (.type "tuple") = some false := kit_sub (by decide +kernel) T.kt_Counts
          have hnl : ∀ x ∈ TH2, NotL K H12 x := by
            intro x hx
            rw [hTH2] at hx
            simp only [List.mem_cons, List.not_mem_nil, or_false] at hx
            rcases hx with rfl | rfl | rfl | rfl | rfl | rfl
            · exact NotL.of (.base .non) (ka_f kt_NoneType_list (ka_f kt_NoneType_tuple ka_nil)) kt_NoneType_list
            · exact NotL.of (.base (.int _)) (ka_f kt_int_list (ka_f kt_int_tuple ka_nil)) kt_int_list
            · exact NotL.of (.base (.str _)) (ka_f kt_str_list (ka_f kt_str_tuple ka_nil)) kt_str_list
            · exact NotL.of (.base (.dK y1)) (ka_f kt_dict_list (ka_f kt_dict_tuple ka_nil)) kt_dict_list
            · exact NotL.of (.base (.bl _)) (ka_f kt_bool_list (ka_f kt_bool_tuple ka_nil)) kt_bool_list
            · refine' NotL.of ?h1 (ka_f tk1 (ka_f tk2 ka_nil)) tk1
              (case h1 => walk_at "tyx")
          have hself : ∀ x ∈ TH2, ∀ H, E1 K H x x true := by
            intro x hx H
            rw [hTH2] at hx
            simp only [List.mem_cons, List.not_mem_nil, or_false] at hx
            rcases hx with rfl | rfl | rfl | rfl | rfl | rfl
            · exact e1_non
            · exact e1_int
            · exact e1_str
            · exact E1.same _
            · exact e1_bl
            · exact E1.same _
          have hTl2 : TH2.length = 6 := by rw [hTH2]; rfl
          clear y1 y3 hTH2 s19 s20 hl6 z1 g1 g2
          refine for_list (K := K) (a := l6) (xs := TH2) (fun i σ H' => (∃ u7 u8 u9 u10 u11 u12 : Option V, σ = [some (.ref a), some (.int m), some (.int n), some (.ref R), some (.ref D), some (.int o), some (.int e), u7, u8, u9, u10, u11, u12]) ∧ Same H12 H') ⟨⟨u7, u8, u9, u10, u11, u12, rfl⟩, Same.refl _⟩ (fun i σ H' _ h => SqL.of (h.2 _ _ F6)) ?_ ?_
          · rintro i z σ H13 hz ⟨⟨v7, v8, v9, v10, v11, v12, rfl⟩, s22⟩
            obtain ⟨tz, q1, q2, q3⟩ := (hnl z (List.mem_of_getElem? hz)).same s22
            walk_at "rdn"
            intro r H14 s23 e1
            walk_at "rdn"
            intro q hq
            walk_at "rdn"
            refine q_neXT (by walk_at "sq") (by walk_at "sq") (e1s_2 e1_str (hself z (List.mem_of_getElem? hz) _)) ?_
            walk_at "rdn"
            exact ⟨⟨_, _, _, _, _, _, rfl⟩, (s22.trans s23).trans (Same.new hq)⟩
          · rintro σ H13 ⟨⟨v7, v8, v9, v10, v11, v12, rfl⟩, s22⟩
            have s24 := s21.trans s22
            walk_at "rdn"
            refine r_law_right rfl (h2 := h2) (h5 := h5) (hr := same_at s24 hR2) (hrs := hr2.mono fun x c h => h.same s24) (ha := hL.same s24) (hc := hc.mono fun x c h => h.same s24) (ho := hok) (hl := hcl) ?_
            intro H14 s25
            walk_at "rdn"
            exact k _

end
theorem all_mk {l : PySem.W.OpenLaw} [PF l.prog] {w : World} {K : PySem.W.Frag} {h : Heap} {mg : Str → Option Value} {fa : Addr} (X : K.In h) (G : h.Ns mainGlobals mg) (hfa : mg "law" = some (.ref fa))
    {f_is_whole : Addr} {od_is_whole an_is_whole : Option Addr} {sl_is_whole : Array (Option Value)} {oc_is_whole kV_is_whole dc_is_whole pm_is_whole cd_is_whole ct_is_whole : Value}
    {da_is_whole : Addr} {ddd_is_whole : Option Addr} {dn_is_whole : Nat} {dsl_is_whole : Array (Option Value)}
    {f_is_list : Addr} {od_is_list an_is_list : Option Addr} {sl_is_list : Array (Option Value)} {oc_is_list kV_is_list dc_is_list pm_is_list cd_is_list ct_is_list : Value}
    {f_Counts_init : Addr} {od_Counts_init an_Counts_init : Option Addr} {sl_Counts_init : Array (Option Value)} {oc_Counts_init kV_Counts_init dc_Counts_init pm_Counts_init cd_Counts_init ct_Counts_init : Value}
    {f_Counts_len : Addr} {od_Counts_len an_Counts_len : Option Addr} {sl_Counts_len : Array (Option Value)} {oc_Counts_len kV_Counts_len dc_Counts_len pm_Counts_len cd_Counts_len ct_Counts_len : Value}
    {f_Counts_told : Addr} {od_Counts_told an_Counts_told : Option Addr} {sl_Counts_told : Array (Option Value)} {oc_Counts_told kV_Counts_told dc_Counts_told pm_Counts_told cd_Counts_told ct_Counts_told : Value}
    {f_Counts_check_like : Addr} {od_Counts_check_like an_Counts_check_like : Option Addr} {sl_Counts_check_like : Array (Option Value)} {oc_Counts_check_like kV_Counts_check_like dc_Counts_check_like pm_Counts_check_like cd_Counts_check_like ct_Counts_check_like : Value}
    {f_Counts_joined : Addr} {od_Counts_joined an_Counts_joined : Option Addr} {sl_Counts_joined : Array (Option Value)} {oc_Counts_joined kV_Counts_joined dc_Counts_joined pm_Counts_joined cd_Counts_joined ct_Counts_joined : Value}
    {f_law_take : Addr} {od_law_take an_law_take : Option Addr} {sl_law_take : Array (Option Value)} {oc_law_take kV_law_take dc_law_take pm_law_take cd_law_take ct_law_take : Value}
    {f_law_pool : Addr} {od_law_pool an_law_pool : Option Addr} {sl_law_pool : Array (Option Value)} {oc_law_pool kV_law_pool dc_law_pool pm_law_pool cd_law_pool ct_law_pool : Value}
    {f_law_numbers : Addr} {od_law_numbers an_law_numbers : Option Addr} {sl_law_numbers : Array (Option Value)} {oc_law_numbers kV_law_numbers dc_law_numbers pm_law_numbers cd_law_numbers ct_law_numbers : Value}
    {f_check_members : Addr} {od_check_members an_check_members : Option Addr} {sl_check_members : Array (Option Value)} {oc_check_members kV_check_members dc_check_members pm_check_members cd_check_members ct_check_members : Value}
    {f_law_cell_at : Addr} {od_law_cell_at an_law_cell_at : Option Addr} {sl_law_cell_at : Array (Option Value)} {oc_law_cell_at kV_law_cell_at dc_law_cell_at pm_law_cell_at cd_law_cell_at ct_law_cell_at : Value}
    {f_all_joined : Addr} {od_all_joined an_all_joined : Option Addr} {sl_all_joined : Array (Option Value)} {oc_all_joined kV_all_joined dc_all_joined pm_all_joined cd_all_joined ct_all_joined : Value}
    {f_law_rows : Addr} {od_law_rows an_law_rows : Option Addr} {sl_law_rows : Array (Option Value)} {oc_law_rows kV_law_rows dc_law_rows pm_law_rows cd_law_rows ct_law_rows : Value}
    {f_law_first : Addr} {od_law_first an_law_first : Option Addr} {sl_law_first : Array (Option Value)} {oc_law_first kV_law_first dc_law_first pm_law_first cd_law_first ct_law_first : Value}
    {f_law_right : Addr} {od_law_right an_law_right : Option Addr} {sl_law_right : Array (Option Value)} {oc_law_right kV_law_right dc_law_right pm_law_right cd_law_right ct_law_right : Value}
    {f_law : Addr} {od_law an_law : Option Addr} {sl_law : Array (Option Value)} {oc_law kV_law dc_law pm_law cd_law ct_law : Value}
    {C_Counts : Addr}
    {C_HallError : Addr}
    {C_NoCounts : Addr}
    {C_NoNumber : Addr}
    {C_Unlike : Addr}
    {fI_NoCounts cda_NoCounts cc_NoCounts : Addr} {odI_NoCounts anI_NoCounts : Option Addr} {slI_NoCounts ccsI_NoCounts cslI_NoCounts : Array (Option Value)} {ocI_NoCounts kVI_NoCounts dcI_NoCounts pmI_NoCounts ctI_NoCounts cclI_NoCounts clI_NoCounts : Value} {cddI_NoCounts cldI_NoCounts : Option Addr} {vsI_NoCounts : Array Value} {tfI_NoCounts : Tok}
    {fI_NoNumber cda_NoNumber cc_NoNumber : Addr} {odI_NoNumber anI_NoNumber : Option Addr} {slI_NoNumber ccsI_NoNumber cslI_NoNumber : Array (Option Value)} {ocI_NoNumber kVI_NoNumber dcI_NoNumber pmI_NoNumber ctI_NoNumber cclI_NoNumber clI_NoNumber : Value} {cddI_NoNumber cldI_NoNumber : Option Addr} {vsI_NoNumber : Array Value} {tfI_NoNumber : Tok}
    {fI_Unlike cda_Unlike cc_Unlike : Addr} {odI_Unlike anI_Unlike : Option Addr} {slI_Unlike ccsI_Unlike cslI_Unlike : Array (Option Value)} {ocI_Unlike kVI_Unlike dcI_Unlike pmI_Unlike ctI_Unlike cclI_Unlike clI_Unlike : Value} {cddI_Unlike cldI_Unlike : Option Addr} {vsI_Unlike : Array Value} {tfI_Unlike : Tok}
    {t_LEAST_MEMBERS : Tok}
    {t_MOST_MEMBERS : Tok}
    (aC_Unlike : PySem.W.nsIn K mainGlobals "Unlike" = some (some (.ref C_Unlike)))
    (aC_NoNumber : PySem.W.nsIn K mainGlobals "NoNumber" = some (some (.ref C_NoNumber)))
    (aC_NoCounts : PySem.W.nsIn K mainGlobals "NoCounts" = some (some (.ref C_NoCounts)))
    (aC_HallError : PySem.W.nsIn K mainGlobals "HallError" = some (some (.ref C_HallError)))
    (aC_Counts : PySem.W.nsIn K mainGlobals "Counts" = some (some (.ref C_Counts)))
    (a_is_whole : PySem.W.nsIn K mainGlobals "is_whole" = some (some (.ref f_is_whole)))
    (l_is_whole : K.lookup f_is_whole = some ⟨oc_is_whole, od_is_whole, .func (PySem.W.fnOf "is_whole" "is_whole" (defArgs s_is_whole) (defBody s_is_whole) (defScope s_is_whole) (.ref da_is_whole) kV_is_whole dc_is_whole pm_is_whole an_is_whole cd_is_whole ct_is_whole), sl_is_whole⟩)
    (c_is_whole : PySem.W.codeIn K cd_is_whole "is_whole" = true)
    (k_is_whole : PySem.W.keepIn K (.ref f_is_whole) = true)
    (e_is_whole : K.lookup da_is_whole = some ⟨.type "tuple", ddd_is_whole, .seq #[.none] dn_is_whole, dsl_is_whole⟩)
    (a_is_list : PySem.W.nsIn K mainGlobals "is_list" = some (some (.ref f_is_list)))
    (l_is_list : K.lookup f_is_list = some ⟨oc_is_list, od_is_list, .func (PySem.W.fnOf "is_list" "is_list" (defArgs s_is_list) (defBody s_is_list) (defScope s_is_list) .none kV_is_list dc_is_list pm_is_list an_is_list cd_is_list ct_is_list), sl_is_list⟩)
    (c_is_list : PySem.W.codeIn K cd_is_list "is_list" = true)
    (k_is_list : PySem.W.keepIn K (.ref f_is_list) = true)
    (a_Counts_init : PySem.W.findIn K (.ref C_Counts) "__init__" = some (some (.ref f_Counts_init)))
    (i_Counts_init : PySem.W.isFn K (.ref f_Counts_init) = true)
    (l_Counts_init : K.lookup f_Counts_init = some ⟨oc_Counts_init, od_Counts_init, .func (PySem.W.fnOf "__init__" "Counts.__init__" (defArgs s_Counts_init) (defBody s_Counts_init) (defScope s_Counts_init) .none kV_Counts_init dc_Counts_init pm_Counts_init an_Counts_init cd_Counts_init ct_Counts_init), sl_Counts_init⟩)
    (c_Counts_init : PySem.W.codeIn K cd_Counts_init "Counts.__init__" = true)
    (k_Counts_init : PySem.W.keepIn K (.ref f_Counts_init) = true)
    (a_Counts_len : PySem.W.findIn K (.ref C_Counts) "__len__" = some (some (.ref f_Counts_len)))
    (i_Counts_len : PySem.W.isFn K (.ref f_Counts_len) = true)
    (l_Counts_len : K.lookup f_Counts_len = some ⟨oc_Counts_len, od_Counts_len, .func (PySem.W.fnOf "__len__" "Counts.__len__" (defArgs s_Counts_len) (defBody s_Counts_len) (defScope s_Counts_len) .none kV_Counts_len dc_Counts_len pm_Counts_len an_Counts_len cd_Counts_len ct_Counts_len), sl_Counts_len⟩)
    (c_Counts_len : PySem.W.codeIn K cd_Counts_len "Counts.__len__" = true)
    (k_Counts_len : PySem.W.keepIn K (.ref f_Counts_len) = true)
    (a_Counts_told : PySem.W.findIn K (.ref C_Counts) "told" = some (some (.ref f_Counts_told)))
    (i_Counts_told : PySem.W.isFn K (.ref f_Counts_told) = true)
    (l_Counts_told : K.lookup f_Counts_told = some ⟨oc_Counts_told, od_Counts_told, .func (PySem.W.fnOf "told" "Counts.told" (defArgs s_Counts_told) (defBody s_Counts_told) (defScope s_Counts_told) .none kV_Counts_told dc_Counts_told pm_Counts_told an_Counts_told cd_Counts_told ct_Counts_told), sl_Counts_told⟩)
    (c_Counts_told : PySem.W.codeIn K cd_Counts_told "Counts.told" = true)
    (k_Counts_told : PySem.W.keepIn K (.ref f_Counts_told) = true)
    (a_Counts_check_like : PySem.W.findIn K (.ref C_Counts) "_check_like" = some (some (.ref f_Counts_check_like)))
    (i_Counts_check_like : PySem.W.isFn K (.ref f_Counts_check_like) = true)
    (l_Counts_check_like : K.lookup f_Counts_check_like = some ⟨oc_Counts_check_like, od_Counts_check_like, .func (PySem.W.fnOf "_check_like" "Counts._check_like" (defArgs s_Counts_check_like) (defBody s_Counts_check_like) (defScope s_Counts_check_like) .none kV_Counts_check_like dc_Counts_check_like pm_Counts_check_like an_Counts_check_like cd_Counts_check_like ct_Counts_check_like), sl_Counts_check_like⟩)
    (c_Counts_check_like : PySem.W.codeIn K cd_Counts_check_like "Counts._check_like" = true)
    (k_Counts_check_like : PySem.W.keepIn K (.ref f_Counts_check_like) = true)
    (a_Counts_joined : PySem.W.findIn K (.ref C_Counts) "joined" = some (some (.ref f_Counts_joined)))
    (i_Counts_joined : PySem.W.isFn K (.ref f_Counts_joined) = true)
    (l_Counts_joined : K.lookup f_Counts_joined = some ⟨oc_Counts_joined, od_Counts_joined, .func (PySem.W.fnOf "joined" "Counts.joined" (defArgs s_Counts_joined) (defBody s_Counts_joined) (defScope s_Counts_joined) .none kV_Counts_joined dc_Counts_joined pm_Counts_joined an_Counts_joined cd_Counts_joined ct_Counts_joined), sl_Counts_joined⟩)
    (c_Counts_joined : PySem.W.codeIn K cd_Counts_joined "Counts.joined" = true)
    (k_Counts_joined : PySem.W.keepIn K (.ref f_Counts_joined) = true)
    (a_law_take : PySem.W.nsIn K mainGlobals "_law_take" = some (some (.ref f_law_take)))
    (l_law_take : K.lookup f_law_take = some ⟨oc_law_take, od_law_take, .func (PySem.W.fnOf "_law_take" "_law_take" (defArgs s_law_take) (defBody s_law_take) (defScope s_law_take) .none kV_law_take dc_law_take pm_law_take an_law_take cd_law_take ct_law_take), sl_law_take⟩)
    (c_law_take : PySem.W.codeIn K cd_law_take "_law_take" = true)
    (k_law_take : PySem.W.keepIn K (.ref f_law_take) = true)
    (a_law_pool : PySem.W.nsIn K mainGlobals "_law_pool" = some (some (.ref f_law_pool)))
    (l_law_pool : K.lookup f_law_pool = some ⟨oc_law_pool, od_law_pool, .func (PySem.W.fnOf "_law_pool" "_law_pool" (defArgs s_law_pool) (defBody s_law_pool) (defScope s_law_pool) .none kV_law_pool dc_law_pool pm_law_pool an_law_pool cd_law_pool ct_law_pool), sl_law_pool⟩)
    (c_law_pool : PySem.W.codeIn K cd_law_pool "_law_pool" = true)
    (k_law_pool : PySem.W.keepIn K (.ref f_law_pool) = true)
    (a_law_numbers : PySem.W.nsIn K mainGlobals "_law_numbers" = some (some (.ref f_law_numbers)))
    (l_law_numbers : K.lookup f_law_numbers = some ⟨oc_law_numbers, od_law_numbers, .func (PySem.W.fnOf "_law_numbers" "_law_numbers" (defArgs s_law_numbers) (defBody s_law_numbers) (defScope s_law_numbers) .none kV_law_numbers dc_law_numbers pm_law_numbers an_law_numbers cd_law_numbers ct_law_numbers), sl_law_numbers⟩)
    (c_law_numbers : PySem.W.codeIn K cd_law_numbers "_law_numbers" = true)
    (k_law_numbers : PySem.W.keepIn K (.ref f_law_numbers) = true)
    (a_check_members : PySem.W.nsIn K mainGlobals "check_members" = some (some (.ref f_check_members)))
    (l_check_members : K.lookup f_check_members = some ⟨oc_check_members, od_check_members, .func (PySem.W.fnOf "check_members" "check_members" (defArgs s_check_members) (defBody s_check_members) (defScope s_check_members) .none kV_check_members dc_check_members pm_check_members an_check_members cd_check_members ct_check_members), sl_check_members⟩)
    (c_check_members : PySem.W.codeIn K cd_check_members "check_members" = true)
    (k_check_members : PySem.W.keepIn K (.ref f_check_members) = true)
    (a_law_cell_at : PySem.W.nsIn K mainGlobals "_law_cell_at" = some (some (.ref f_law_cell_at)))
    (l_law_cell_at : K.lookup f_law_cell_at = some ⟨oc_law_cell_at, od_law_cell_at, .func (PySem.W.fnOf "_law_cell_at" "_law_cell_at" (defArgs s_law_cell_at) (defBody s_law_cell_at) (defScope s_law_cell_at) .none kV_law_cell_at dc_law_cell_at pm_law_cell_at an_law_cell_at cd_law_cell_at ct_law_cell_at), sl_law_cell_at⟩)
    (c_law_cell_at : PySem.W.codeIn K cd_law_cell_at "_law_cell_at" = true)
    (k_law_cell_at : PySem.W.keepIn K (.ref f_law_cell_at) = true)
    (a_all_joined : PySem.W.nsIn K mainGlobals "all_joined" = some (some (.ref f_all_joined)))
    (l_all_joined : K.lookup f_all_joined = some ⟨oc_all_joined, od_all_joined, .func (PySem.W.fnOf "all_joined" "all_joined" (defArgs s_all_joined) (defBody s_all_joined) (defScope s_all_joined) .none kV_all_joined dc_all_joined pm_all_joined an_all_joined cd_all_joined ct_all_joined), sl_all_joined⟩)
    (c_all_joined : PySem.W.codeIn K cd_all_joined "all_joined" = true)
    (k_all_joined : PySem.W.keepIn K (.ref f_all_joined) = true)
    (a_law_rows : PySem.W.nsIn K mainGlobals "_law_rows" = some (some (.ref f_law_rows)))
    (l_law_rows : K.lookup f_law_rows = some ⟨oc_law_rows, od_law_rows, .func (PySem.W.fnOf "_law_rows" "_law_rows" (defArgs s_law_rows) (defBody s_law_rows) (defScope s_law_rows) .none kV_law_rows dc_law_rows pm_law_rows an_law_rows cd_law_rows ct_law_rows), sl_law_rows⟩)
    (c_law_rows : PySem.W.codeIn K cd_law_rows "_law_rows" = true)
    (k_law_rows : PySem.W.keepIn K (.ref f_law_rows) = true)
    (a_law_first : PySem.W.nsIn K mainGlobals "_law_first" = some (some (.ref f_law_first)))
    (l_law_first : K.lookup f_law_first = some ⟨oc_law_first, od_law_first, .func (PySem.W.fnOf "_law_first" "_law_first" (defArgs s_law_first) (defBody s_law_first) (defScope s_law_first) .none kV_law_first dc_law_first pm_law_first an_law_first cd_law_first ct_law_first), sl_law_first⟩)
    (c_law_first : PySem.W.codeIn K cd_law_first "_law_first" = true)
    (k_law_first : PySem.W.keepIn K (.ref f_law_first) = true)
    (a_law_right : PySem.W.nsIn K mainGlobals "_law_right" = some (some (.ref f_law_right)))
    (l_law_right : K.lookup f_law_right = some ⟨oc_law_right, od_law_right, .func (PySem.W.fnOf "_law_right" "_law_right" (defArgs s_law_right) (defBody s_law_right) (defScope s_law_right) .none kV_law_right dc_law_right pm_law_right an_law_right cd_law_right ct_law_right), sl_law_right⟩)
    (c_law_right : PySem.W.codeIn K cd_law_right "_law_right" = true)
    (k_law_right : PySem.W.keepIn K (.ref f_law_right) = true)
    (a_law : PySem.W.nsIn K mainGlobals "law" = some (some (.ref f_law)))
    (l_law : K.lookup f_law = some ⟨oc_law, od_law, .func (PySem.W.fnOf "law" "law" (defArgs s_law) (defBody s_law) (defScope s_law) .none kV_law dc_law pm_law an_law cd_law ct_law), sl_law⟩)
    (c_law : PySem.W.codeIn K cd_law "law" = true)
    (k_law : PySem.W.keepIn K (.ref f_law) = true)
    (kC_Counts : PySem.W.keepIn K (.ref C_Counts) = true)
    (pg_Counts : PySem.W.plainGet K C_Counts Str.empty = true)
    (hd_Counts : PySem.W.hasDictIn K C_Counts = true)
    (po_Counts : PySem.W.plainOver K C_Counts = true)
    (sa_Counts : PySem.W.findIn K (.ref C_Counts) "__setattr__" = some (some (.builtin "object.__setattr__")))
    (mk_Counts : PySem.W.makesIn K C_Counts = true)
    (ha_Counts : PySem.W.findIn K (.ref C_Counts) "__class__" = some (some (.builtin "object.__class__")))
    (hm_Counts : PySem.W.mroIn K C_Counts (.type "object") = some true)
    (ty_Counts : PySem.W.typeIn K (.ref C_Counts) = some (.type "type"))
    (nt_NoneType_Counts : PySem.W.subIn K (.type "NoneType") (.ref C_Counts) = some false)
    (nt_bool_Counts : PySem.W.subIn K (.type "bool") (.ref C_Counts) = some false)
    (nt_int_Counts : PySem.W.subIn K (.type "int") (.ref C_Counts) = some false)
    (nt_str_Counts : PySem.W.subIn K (.type "str") (.ref C_Counts) = some false)
    (nt_list_Counts : PySem.W.subIn K (.type "list") (.ref C_Counts) = some false)
    (nt_tuple_Counts : PySem.W.subIn K (.type "tuple") (.ref C_Counts) = some false)
    (nt_dict_Counts : PySem.W.subIn K (.type "dict") (.ref C_Counts) = some false)
    (n_Counts__numbers : PySem.W.findIn K (.ref C_Counts) "_numbers" = some none)
    (kC_HallError : PySem.W.keepIn K (.ref C_HallError) = true)
    (kC_NoCounts : PySem.W.keepIn K (.ref C_NoCounts) = true)
    (kC_NoNumber : PySem.W.keepIn K (.ref C_NoNumber) = true)
    (kC_Unlike : PySem.W.keepIn K (.ref C_Unlike) = true)
    (exC_HallError : PySem.W.subIn K (.ref C_HallError) (.type "BaseException") = some true)
    (hdx_HallError : PySem.W.hasDictIn K C_HallError = true)
    (ty_HallError : PySem.W.typeIn K (.ref C_HallError) = some (.type "type"))
    (ss_HallError : PySem.W.subIn K (.ref C_HallError) (.ref C_HallError) = some true)
    (exC_NoCounts : PySem.W.subIn K (.ref C_NoCounts) (.type "BaseException") = some true)
    (hdx_NoCounts : PySem.W.hasDictIn K C_NoCounts = true)
    (ty_NoCounts : PySem.W.typeIn K (.ref C_NoCounts) = some (.type "type"))
    (ss_NoCounts : PySem.W.subIn K (.ref C_NoCounts) (.ref C_NoCounts) = some true)
    (exC_NoNumber : PySem.W.subIn K (.ref C_NoNumber) (.type "BaseException") = some true)
    (hdx_NoNumber : PySem.W.hasDictIn K C_NoNumber = true)
    (ty_NoNumber : PySem.W.typeIn K (.ref C_NoNumber) = some (.type "type"))
    (ss_NoNumber : PySem.W.subIn K (.ref C_NoNumber) (.ref C_NoNumber) = some true)
    (exC_Unlike : PySem.W.subIn K (.ref C_Unlike) (.type "BaseException") = some true)
    (hdx_Unlike : PySem.W.hasDictIn K C_Unlike = true)
    (ty_Unlike : PySem.W.typeIn K (.ref C_Unlike) = some (.type "type"))
    (ss_Unlike : PySem.W.subIn K (.ref C_Unlike) (.ref C_Unlike) = some true)
    (opq : PySem.W.nsIn K PySem.cStatics "thirdparty.any" = some none)
    (xhn : PySem.W.specialIn K (.builtin "object.__class__") "__get__" = some (some (.builtin "getset_descriptor.__get__")))
    (xht : PySem.W.takesIn K (.builtin "object.__class__") = some true)
    (ii_NoCounts : PySem.W.findIn K (.ref C_NoCounts) "__init__" = some (some (.ref fI_NoCounts)))
    (lI_NoCounts : K.lookup fI_NoCounts = some ⟨ocI_NoCounts, odI_NoCounts, .func (PySem.W.ksFn "__init__" "NoCounts.__init__" (defArgs (inClass (topS 5) 0)) (defBody (inClass (topS 5) 0)) (defScope (inClass (topS 5) 0)) .none kVI_NoCounts dcI_NoCounts pmI_NoCounts anI_NoCounts (.ref cda_NoCounts) ctI_NoCounts cc_NoCounts), slI_NoCounts⟩)
    (coI_NoCounts : PySem.W.codeIn K (.ref cda_NoCounts) "NoCounts.__init__" = true)
    (cdI_NoCounts : K.lookup cda_NoCounts = some ⟨cclI_NoCounts, cddI_NoCounts, .fields vsI_NoCounts, ccsI_NoCounts⟩)
    (vfI_NoCounts : vsI_NoCounts[2]? = some (.str (Str.ofString "/claim/cut.py") tfI_NoCounts))
    (clI_NoCounts : K.lookup cc_NoCounts = some ⟨clI_NoCounts, cldI_NoCounts, .cell (some (.ref C_NoCounts)), cslI_NoCounts⟩)
    (in_NoCounts : PySem.W.excInitIn K C_NoCounts veT "ValueError.__new__" = true)
    (ov_NoCounts : PySem.W.excOver K C_NoCounts veT = true)
    (sax_NoCounts : PySem.W.findIn K (.ref C_NoCounts) "__setattr__" = some (some (.builtin "object.__setattr__")))
    (nf_NoCounts : PySem.W.findIn K (.ref C_NoCounts) "found" = some none)
    (sB_NoCounts : PySem.W.subIn K (.ref C_NoCounts) (.type "ValueError") = some true)
    (sC_NoCounts : PySem.W.mroIn K C_NoCounts (.ref C_NoCounts) = some true)
    (ti_NoCounts : PySem.W.typeIn K (.ref fI_NoCounts) = some (.type "function"))
    (sup_NoCounts : PySem.W.ks_superIn K C_NoCounts C_NoCounts "__init__" = some (some (.builtin "ValueError.__init__")))
    (xga_NoCounts : PySem.W.findIn K (.ref C_NoCounts) "__getattribute__" = some (some (.builtin "BaseException.__getattribute__")))
    (xgg_NoCounts : PySem.W.findIn K (.ref C_NoCounts) "__getattr__" = some none)
    (xha_NoCounts : PySem.W.findIn K (.ref C_NoCounts) "__class__" = some (some (.builtin "object.__class__")))
    (xhm_NoCounts : PySem.W.mroIn K C_NoCounts (.type "object") = some true)
    (sb_NoCounts_HallError : PySem.W.subIn K (.ref C_NoCounts) (.ref C_HallError) = some true)
    (sb_NoCounts_NoCounts : PySem.W.subIn K (.ref C_NoCounts) (.ref C_NoCounts) = some true)
    (sb_NoCounts_NoNumber : PySem.W.subIn K (.ref C_NoCounts) (.ref C_NoNumber) = some false)
    (ii_NoNumber : PySem.W.findIn K (.ref C_NoNumber) "__init__" = some (some (.ref fI_NoNumber)))
    (lI_NoNumber : K.lookup fI_NoNumber = some ⟨ocI_NoNumber, odI_NoNumber, .func (PySem.W.ksFn "__init__" "NoNumber.__init__" (defArgs (inClass (topS 3) 0)) (defBody (inClass (topS 3) 0)) (defScope (inClass (topS 3) 0)) .none kVI_NoNumber dcI_NoNumber pmI_NoNumber anI_NoNumber (.ref cda_NoNumber) ctI_NoNumber cc_NoNumber), slI_NoNumber⟩)
    (coI_NoNumber : PySem.W.codeIn K (.ref cda_NoNumber) "NoNumber.__init__" = true)
    (cdI_NoNumber : K.lookup cda_NoNumber = some ⟨cclI_NoNumber, cddI_NoNumber, .fields vsI_NoNumber, ccsI_NoNumber⟩)
    (vfI_NoNumber : vsI_NoNumber[2]? = some (.str (Str.ofString "/claim/cut.py") tfI_NoNumber))
    (clI_NoNumber : K.lookup cc_NoNumber = some ⟨clI_NoNumber, cldI_NoNumber, .cell (some (.ref C_NoNumber)), cslI_NoNumber⟩)
    (in_NoNumber : PySem.W.excInitIn K C_NoNumber veT "ValueError.__new__" = true)
    (ov_NoNumber : PySem.W.excOver K C_NoNumber veT = true)
    (sax_NoNumber : PySem.W.findIn K (.ref C_NoNumber) "__setattr__" = some (some (.builtin "object.__setattr__")))
    (nf_NoNumber : PySem.W.findIn K (.ref C_NoNumber) "found" = some none)
    (sB_NoNumber : PySem.W.subIn K (.ref C_NoNumber) (.type "ValueError") = some true)
    (sC_NoNumber : PySem.W.mroIn K C_NoNumber (.ref C_NoNumber) = some true)
    (ti_NoNumber : PySem.W.typeIn K (.ref fI_NoNumber) = some (.type "function"))
    (sup_NoNumber : PySem.W.ks_superIn K C_NoNumber C_NoNumber "__init__" = some (some (.builtin "ValueError.__init__")))
    (xga_NoNumber : PySem.W.findIn K (.ref C_NoNumber) "__getattribute__" = some (some (.builtin "BaseException.__getattribute__")))
    (xgg_NoNumber : PySem.W.findIn K (.ref C_NoNumber) "__getattr__" = some none)
    (xha_NoNumber : PySem.W.findIn K (.ref C_NoNumber) "__class__" = some (some (.builtin "object.__class__")))
    (xhm_NoNumber : PySem.W.mroIn K C_NoNumber (.type "object") = some true)
    (sb_NoNumber_HallError : PySem.W.subIn K (.ref C_NoNumber) (.ref C_HallError) = some true)
    (sb_NoNumber_NoCounts : PySem.W.subIn K (.ref C_NoNumber) (.ref C_NoCounts) = some false)
    (sb_NoNumber_NoNumber : PySem.W.subIn K (.ref C_NoNumber) (.ref C_NoNumber) = some true)
    (ii_Unlike : PySem.W.findIn K (.ref C_Unlike) "__init__" = some (some (.ref fI_Unlike)))
    (lI_Unlike : K.lookup fI_Unlike = some ⟨ocI_Unlike, odI_Unlike, .func (PySem.W.ksFn "__init__" "Unlike.__init__" (defArgs (inClass (topS 6) 0)) (defBody (inClass (topS 6) 0)) (defScope (inClass (topS 6) 0)) .none kVI_Unlike dcI_Unlike pmI_Unlike anI_Unlike (.ref cda_Unlike) ctI_Unlike cc_Unlike), slI_Unlike⟩)
    (coI_Unlike : PySem.W.codeIn K (.ref cda_Unlike) "Unlike.__init__" = true)
    (cdI_Unlike : K.lookup cda_Unlike = some ⟨cclI_Unlike, cddI_Unlike, .fields vsI_Unlike, ccsI_Unlike⟩)
    (vfI_Unlike : vsI_Unlike[2]? = some (.str (Str.ofString "/claim/cut.py") tfI_Unlike))
    (clI_Unlike : K.lookup cc_Unlike = some ⟨clI_Unlike, cldI_Unlike, .cell (some (.ref C_Unlike)), cslI_Unlike⟩)
    (in_Unlike : PySem.W.excInitIn K C_Unlike veT "ValueError.__new__" = true)
    (ov_Unlike : PySem.W.excOver K C_Unlike veT = true)
    (sax_Unlike : PySem.W.findIn K (.ref C_Unlike) "__setattr__" = some (some (.builtin "object.__setattr__")))
    (nf_Unlike : PySem.W.findIn K (.ref C_Unlike) "found" = some none)
    (sB_Unlike : PySem.W.subIn K (.ref C_Unlike) (.type "ValueError") = some true)
    (sC_Unlike : PySem.W.mroIn K C_Unlike (.ref C_Unlike) = some true)
    (ti_Unlike : PySem.W.typeIn K (.ref fI_Unlike) = some (.type "function"))
    (sup_Unlike : PySem.W.ks_superIn K C_Unlike C_Unlike "__init__" = some (some (.builtin "ValueError.__init__")))
    (xga_Unlike : PySem.W.findIn K (.ref C_Unlike) "__getattribute__" = some (some (.builtin "BaseException.__getattribute__")))
    (xgg_Unlike : PySem.W.findIn K (.ref C_Unlike) "__getattr__" = some none)
    (xha_Unlike : PySem.W.findIn K (.ref C_Unlike) "__class__" = some (some (.builtin "object.__class__")))
    (xhm_Unlike : PySem.W.mroIn K C_Unlike (.type "object") = some true)
    (sb_Unlike_HallError : PySem.W.subIn K (.ref C_Unlike) (.ref C_HallError) = some true)
    (sb_Unlike_NoCounts : PySem.W.subIn K (.ref C_Unlike) (.ref C_NoCounts) = some false)
    (sb_Unlike_NoNumber : PySem.W.subIn K (.ref C_Unlike) (.ref C_NoNumber) = some false)
    (x_hn : PySem.W.specialIn K (.builtin "object.__class__") "__get__" = some (some (.builtin "getset_descriptor.__get__")))
    (x_htk : PySem.W.takesIn K (.builtin "object.__class__") = some true)
    (x_ki_Counts : PySem.W.subIn K (.ref C_Counts) (.type "int") = some false)
    (x_kl_Counts : PySem.W.subIn K (.ref C_Counts) (.type "list") = some false)
    (x_kt_Counts : PySem.W.subIn K (.ref C_Counts) (.type "tuple") = some false)
    (z_all : PySem.W.nsIn K mainGlobals "all" = some none)
    (z_bool : PySem.W.nsIn K mainGlobals "bool" = some none)
    (z_int : PySem.W.nsIn K mainGlobals "int" = some none)
    (z_isinstance : PySem.W.nsIn K mainGlobals "isinstance" = some none)
    (z_len : PySem.W.nsIn K mainGlobals "len" = some none)
    (z_list : PySem.W.nsIn K mainGlobals "list" = some none)
    (z_max : PySem.W.nsIn K mainGlobals "max" = some none)
    (z_min : PySem.W.nsIn K mainGlobals "min" = some none)
    (z_range : PySem.W.nsIn K mainGlobals "range" = some none)
    (z_super : PySem.W.nsIn K mainGlobals "super" = some none)
    (z_tuple : PySem.W.nsIn K mainGlobals "tuple" = some none)
    (z_zip : PySem.W.nsIn K mainGlobals "zip" = some none)
    (g_LEAST_MEMBERS : PySem.W.nsIn K mainGlobals "LEAST_MEMBERS" = some (some (.int 2 t_LEAST_MEMBERS)))
    (g_MOST_MEMBERS : PySem.W.nsIn K mainGlobals "MOST_MEMBERS" = some (some (.int 5 t_MOST_MEMBERS))) :
    ∃ fd : FuncData, (∀ (s : Shared) (v : Value), BindsTo s fd ⟨[v], []⟩ [("script", v)]) ∧ ∀ base : Heap, K.In base → base.Ns mainGlobals mg → FnOk l.prog w K mg base CX0 8 fa fd ["script"] (sp_law K) := by
  have ee := hfa.symm.trans (PySem.W.mg_of X G a_law)
  cases ee
  have F_is_whole : FunD K "is_whole" "is_whole" (defArgs s_is_whole) (defBody s_is_whole) (defScope s_is_whole) [.non] [] f_is_whole _ := ⟨⟨_, _, _, _, _, _, _, _, _, _, rfl, l_is_whole, c_is_whole, .inr ⟨(by intro z; cases z), _, _, _, _, rfl, e_is_whole, rfl, (.cons rfl .nil)⟩, .inl rfl⟩, k_is_whole⟩
  obtain ⟨ds_is_whole_2, v_is_whole_2, b_is_whole_2⟩ := F_is_whole.binds1 (ps := ["thing", "low", "high"]) 2 0 (by intro z; cases z) rfl (fun _ _ _ _ _ _ _ us its h1 h2 => match us, its, h1, h2 with | [_, _], [_], _, _ => ⟨_, rfl, rfl⟩)
  obtain ⟨ds_is_whole, v_is_whole, b_is_whole⟩ := F_is_whole.binds1 (ps := ["thing", "low", "high"]) 3 1 (by intro z; cases z) rfl (fun _ _ _ _ _ _ _ us its h1 h2 => match us, its, h1, h2 with | [_, _, _], [_], _, _ => ⟨_, rfl, rfl⟩)
  cases v_is_whole
  have F_is_list := fun_mk (st := s_is_list) l_is_list c_is_list k_is_list
  have b_is_list := F_is_list.binds (ps := ["thing"]) fun _ _ _ _ _ _ us hl => match us, hl with | [_], _ => rfl
  have F_Counts_init := fun_mk (st := s_Counts_init) l_Counts_init c_Counts_init k_Counts_init
  have b_Counts_init := F_Counts_init.binds (ps := ["self", "numbers"]) fun _ _ _ _ _ _ us hl => match us, hl with | [_, _], _ => rfl
  have F_Counts_len := fun_mk (st := s_Counts_len) l_Counts_len c_Counts_len k_Counts_len
  have b_Counts_len := F_Counts_len.binds (ps := ["self"]) fun _ _ _ _ _ _ us hl => match us, hl with | [_], _ => rfl
  have F_Counts_told := fun_mk (st := s_Counts_told) l_Counts_told c_Counts_told k_Counts_told
  have b_Counts_told := F_Counts_told.binds (ps := ["self"]) fun _ _ _ _ _ _ us hl => match us, hl with | [_], _ => rfl
  have F_Counts_check_like := fun_mk (st := s_Counts_check_like) l_Counts_check_like c_Counts_check_like k_Counts_check_like
  have b_Counts_check_like := F_Counts_check_like.binds (ps := ["self", "other"]) fun _ _ _ _ _ _ us hl => match us, hl with | [_, _], _ => rfl
  have F_Counts_joined := fun_mk (st := s_Counts_joined) l_Counts_joined c_Counts_joined k_Counts_joined
  have b_Counts_joined := F_Counts_joined.binds (ps := ["self", "other"]) fun _ _ _ _ _ _ us hl => match us, hl with | [_, _], _ => rfl
  have F_law_take := fun_mk (st := s_law_take) l_law_take c_law_take k_law_take
  have b_law_take := F_law_take.binds (ps := ["pool", "size"]) fun _ _ _ _ _ _ us hl => match us, hl with | [_, _], _ => rfl
  have F_law_pool := fun_mk (st := s_law_pool) l_law_pool c_law_pool k_law_pool
  have b_law_pool := F_law_pool.binds (ps := ["cell"]) fun _ _ _ _ _ _ us hl => match us, hl with | [_], _ => rfl
  have F_law_numbers := fun_mk (st := s_law_numbers) l_law_numbers c_law_numbers k_law_numbers
  have b_law_numbers := F_law_numbers.binds (ps := ["pool", "members"]) fun _ _ _ _ _ _ us hl => match us, hl with | [_, _], _ => rfl
  have F_check_members := fun_mk (st := s_check_members) l_check_members c_check_members k_check_members
  have b_check_members := F_check_members.binds (ps := ["members"]) fun _ _ _ _ _ _ us hl => match us, hl with | [_], _ => rfl
  have F_law_cell_at := fun_mk (st := s_law_cell_at) l_law_cell_at c_law_cell_at k_law_cell_at
  have b_law_cell_at := F_law_cell_at.binds (ps := ["script", "k"]) fun _ _ _ _ _ _ us hl => match us, hl with | [_, _], _ => rfl
  have F_all_joined := fun_mk (st := s_all_joined) l_all_joined c_all_joined k_all_joined
  have b_all_joined := F_all_joined.binds (ps := ["members", "rows"]) fun _ _ _ _ _ _ us hl => match us, hl with | [_, _], _ => rfl
  have F_law_rows := fun_mk (st := s_law_rows) l_law_rows c_law_rows k_law_rows
  have b_law_rows := F_law_rows.binds (ps := ["script", "members", "count"]) fun _ _ _ _ _ _ us hl => match us, hl with | [_, _, _], _ => rfl
  have F_law_first := fun_mk (st := s_law_first) l_law_first c_law_first k_law_first
  have b_law_first := F_law_first.binds (ps := ["members", "rows"]) fun _ _ _ _ _ _ us hl => match us, hl with | [_, _], _ => rfl
  have F_law_right := fun_mk (st := s_law_right) l_law_right c_law_right k_law_right
  have b_law_right := F_law_right.binds (ps := ["members", "rows", "handed"]) fun _ _ _ _ _ _ us hl => match us, hl with | [_, _, _], _ => rfl
  have F_law := fun_mk (st := s_law) l_law c_law k_law
  have b_law := F_law.binds (ps := ["script"]) fun _ _ _ _ _ _ us hl => match us, hl with | [_], _ => rfl
  have g_Counts := PySem.W.mg_of X G aC_Counts
  have hdx_Counts := hd_Counts
  have c_Counts : Cls K C_Counts := ⟨pg_Counts, hd_Counts, po_Counts, sa_Counts⟩
  have mkk_Counts : Mk K C_Counts f_Counts_init := ⟨mk_Counts, a_Counts_init, i_Counts_init, kC_Counts⟩
  have mt_Counts_len : Meth K C_Counts "__len__" f_Counts_len := ⟨a_Counts_len, i_Counts_len, k_Counts_len⟩
  have mt_Counts_told : Meth K C_Counts "told" f_Counts_told := ⟨a_Counts_told, i_Counts_told, k_Counts_told⟩
  have mt_Counts_check_like : Meth K C_Counts "_check_like" f_Counts_check_like := ⟨a_Counts_check_like, i_Counts_check_like, k_Counts_check_like⟩
  have mt_Counts_joined : Meth K C_Counts "joined" f_Counts_joined := ⟨a_Counts_joined, i_Counts_joined, k_Counts_joined⟩
  have g_HallError := PySem.W.mg_of X G aC_HallError
  have g_NoCounts := PySem.W.mg_of X G aC_NoCounts
  have g_NoNumber := PySem.W.mg_of X G aC_NoNumber
  have g_Unlike := PySem.W.mg_of X G aC_Unlike
  have ox_NoCounts : OexS K C_NoCounts fI_NoCounts "ValueError" "ValueError.__new__" "ValueError.__init__" _ "found" := {
    base := PySem.F.excBase_ValueError, wrap := PySem.W.kxs_ValueError, stor := PySem.F.store_ValueError, ini := in_NoCounts, over := ov_NoCounts, hd := hdx_NoCounts, sa := sax_NoCounts, nf := nf_NoCounts, exC := exC_NoCounts, sB := sB_NoCounts, sC := sC_NoCounts, tyC := ty_NoCounts, kC := kC_NoCounts, ii := ii_NoCounts, ti := ti_NoCounts, sup := sup_NoCounts, opq := opq,
    fn := ⟨⟨_, _, _, _, _, _, _, _, _, _, _, _, _, _, _, _, _, _, _, _, _, _, _, _, _, _, _, _, _, _, _, _, _, _, _, lI_NoCounts, coI_NoCounts, cdI_NoCounts, vfI_NoCounts, clI_NoCounts, fun _ _ _ => .of_eq rfl, fun _ _ _ => .of_eq rfl, ⟨_, fun _ => rfl⟩, rfl, rfl, rfl, by decide +kernel, by decide +kernel, by decide +kernel, by decide +kernel, by decide +kernel⟩⟩ }
  have xf_NoCounts : XfC K C_NoCounts := ⟨xga_NoCounts, xgg_NoCounts, exC_NoCounts, hdx_NoCounts⟩
  have xc_NoCounts : ExcC K C_NoCounts := ⟨xga_NoCounts, xgg_NoCounts, exC_NoCounts, hdx_NoCounts, xha_NoCounts, xhn, xht, xhm_NoCounts⟩
  have ox_NoNumber : OexS K C_NoNumber fI_NoNumber "ValueError" "ValueError.__new__" "ValueError.__init__" _ "found" := {
    base := PySem.F.excBase_ValueError, wrap := PySem.W.kxs_ValueError, stor := PySem.F.store_ValueError, ini := in_NoNumber, over := ov_NoNumber, hd := hdx_NoNumber, sa := sax_NoNumber, nf := nf_NoNumber, exC := exC_NoNumber, sB := sB_NoNumber, sC := sC_NoNumber, tyC := ty_NoNumber, kC := kC_NoNumber, ii := ii_NoNumber, ti := ti_NoNumber, sup := sup_NoNumber, opq := opq,
    fn := ⟨⟨_, _, _, _, _, _, _, _, _, _, _, _, _, _, _, _, _, _, _, _, _, _, _, _, _, _, _, _, _, _, _, _, _, _, _, lI_NoNumber, coI_NoNumber, cdI_NoNumber, vfI_NoNumber, clI_NoNumber, fun _ _ _ => .of_eq rfl, fun _ _ _ => .of_eq rfl, ⟨_, fun _ => rfl⟩, rfl, rfl, rfl, by decide +kernel, by decide +kernel, by decide +kernel, by decide +kernel, by decide +kernel⟩⟩ }
  have xf_NoNumber : XfC K C_NoNumber := ⟨xga_NoNumber, xgg_NoNumber, exC_NoNumber, hdx_NoNumber⟩
  have xc_NoNumber : ExcC K C_NoNumber := ⟨xga_NoNumber, xgg_NoNumber, exC_NoNumber, hdx_NoNumber, xha_NoNumber, xhn, xht, xhm_NoNumber⟩
  have ox_Unlike : OexS K C_Unlike fI_Unlike "ValueError" "ValueError.__new__" "ValueError.__init__" _ "found" := {
    base := PySem.F.excBase_ValueError, wrap := PySem.W.kxs_ValueError, stor := PySem.F.store_ValueError, ini := in_Unlike, over := ov_Unlike, hd := hdx_Unlike, sa := sax_Unlike, nf := nf_Unlike, exC := exC_Unlike, sB := sB_Unlike, sC := sC_Unlike, tyC := ty_Unlike, kC := kC_Unlike, ii := ii_Unlike, ti := ti_Unlike, sup := sup_Unlike, opq := opq,
    fn := ⟨⟨_, _, _, _, _, _, _, _, _, _, _, _, _, _, _, _, _, _, _, _, _, _, _, _, _, _, _, _, _, _, _, _, _, _, _, lI_Unlike, coI_Unlike, cdI_Unlike, vfI_Unlike, clI_Unlike, fun _ _ _ => .of_eq rfl, fun _ _ _ => .of_eq rfl, ⟨_, fun _ => rfl⟩, rfl, rfl, rfl, by decide +kernel, by decide +kernel, by decide +kernel, by decide +kernel, by decide +kernel⟩⟩ }
  have xf_Unlike : XfC K C_Unlike := ⟨xga_Unlike, xgg_Unlike, exC_Unlike, hdx_Unlike⟩
  have xc_Unlike : ExcC K C_Unlike := ⟨xga_Unlike, xgg_Unlike, exC_Unlike, hdx_Unlike, xha_Unlike, xhn, xht, xhm_Unlike⟩
  let T : Tx K mg := { f_is_whole := f_is_whole, d_is_whole := _, F_is_whole := F_is_whole, m_is_whole := PySem.W.mg_of X G a_is_whole, k_is_whole := k_is_whole, ds_is_whole_2 := ds_is_whole_2, v_is_whole_2 := v_is_whole_2, b_is_whole_2 := b_is_whole_2, b_is_whole := b_is_whole, f_is_list := f_is_list, d_is_list := _, F_is_list := F_is_list, m_is_list := PySem.W.mg_of X G a_is_list, k_is_list := k_is_list, b_is_list := b_is_list, f_Counts_init := f_Counts_init, d_Counts_init := _, F_Counts_init := F_Counts_init, b_Counts_init := b_Counts_init, f_Counts_len := f_Counts_len, d_Counts_len := _, F_Counts_len := F_Counts_len, b_Counts_len := b_Counts_len, f_Counts_told := f_Counts_told, d_Counts_told := _, F_Counts_told := F_Counts_told, b_Counts_told := b_Counts_told, f_Counts_check_like := f_Counts_check_like, d_Counts_check_like := _, F_Counts_check_like := F_Counts_check_like, b_Counts_check_like := b_Counts_check_like, f_Counts_joined := f_Counts_joined, d_Counts_joined := _, F_Counts_joined := F_Counts_joined, b_Counts_joined := b_Counts_joined, f_law_take := f_law_take, d_law_take := _, F_law_take := F_law_take, m_law_take := PySem.W.mg_of X G a_law_take, k_law_take := k_law_take, b_law_take := b_law_take, f_law_pool := f_law_pool, d_law_pool := _, F_law_pool := F_law_pool, m_law_pool := PySem.W.mg_of X G a_law_pool, k_law_pool := k_law_pool, b_law_pool := b_law_pool, f_law_numbers := f_law_numbers, d_law_numbers := _, F_law_numbers := F_law_numbers, m_law_numbers := PySem.W.mg_of X G a_law_numbers, k_law_numbers := k_law_numbers, b_law_numbers := b_law_numbers, f_check_members := f_check_members, d_check_members := _, F_check_members := F_check_members, m_check_members := PySem.W.mg_of X G a_check_members, k_check_members := k_check_members, b_check_members := b_check_members, f_law_cell_at := f_law_cell_at, d_law_cell_at := _, F_law_cell_at := F_law_cell_at, m_law_cell_at := PySem.W.mg_of X G a_law_cell_at, k_law_cell_at := k_law_cell_at, b_law_cell_at := b_law_cell_at, f_all_joined := f_all_joined, d_all_joined := _, F_all_joined := F_all_joined, m_all_joined := PySem.W.mg_of X G a_all_joined, k_all_joined := k_all_joined, b_all_joined := b_all_joined, f_law_rows := f_law_rows, d_law_rows := _, F_law_rows := F_law_rows, m_law_rows := PySem.W.mg_of X G a_law_rows, k_law_rows := k_law_rows, b_law_rows := b_law_rows, f_law_first := f_law_first, d_law_first := _, F_law_first := F_law_first, m_law_first := PySem.W.mg_of X G a_law_first, k_law_first := k_law_first, b_law_first := b_law_first, f_law_right := f_law_right, d_law_right := _, F_law_right := F_law_right, m_law_right := PySem.W.mg_of X G a_law_right, k_law_right := k_law_right, b_law_right := b_law_right, f_law := fa, d_law := _, F_law := F_law, m_law := PySem.W.mg_of X G a_law, k_law := k_law, b_law := b_law, C_Counts := C_Counts, g_Counts := g_Counts, c_Counts := c_Counts, ha_Counts := ha_Counts, hm_Counts := hm_Counts, hdx_Counts := hdx_Counts, ty_Counts := ty_Counts, nt_NoneType_Counts := nt_NoneType_Counts, nt_bool_Counts := nt_bool_Counts, nt_int_Counts := nt_int_Counts, nt_str_Counts := nt_str_Counts, nt_list_Counts := nt_list_Counts, nt_tuple_Counts := nt_tuple_Counts, nt_dict_Counts := nt_dict_Counts, n_Counts__numbers := n_Counts__numbers, mk_Counts := mkk_Counts, mt_Counts_len := mt_Counts_len, mt_Counts_told := mt_Counts_told, mt_Counts_check_like := mt_Counts_check_like, mt_Counts_joined := mt_Counts_joined, C_HallError := C_HallError, g_HallError := g_HallError, C_NoCounts := C_NoCounts, g_NoCounts := g_NoCounts, C_NoNumber := C_NoNumber, g_NoNumber := g_NoNumber, C_Unlike := C_Unlike, g_Unlike := g_Unlike, exC_HallError := exC_HallError, hdx_HallError := hdx_HallError, ty_HallError := ty_HallError, ss_HallError := ss_HallError, exC_NoCounts := exC_NoCounts, hdx_NoCounts := hdx_NoCounts, ty_NoCounts := ty_NoCounts, ss_NoCounts := ss_NoCounts, exC_NoNumber := exC_NoNumber, hdx_NoNumber := hdx_NoNumber, ty_NoNumber := ty_NoNumber, ss_NoNumber := ss_NoNumber, exC_Unlike := exC_Unlike, hdx_Unlike := hdx_Unlike, ty_Unlike := ty_Unlike, ss_Unlike := ss_Unlike, fI_NoCounts := fI_NoCounts, ox_NoCounts := ox_NoCounts, xf_NoCounts := xf_NoCounts, xc_NoCounts := xc_NoCounts, nf_NoCounts := nf_NoCounts, sb_NoCounts_HallError := sb_NoCounts_HallError, sb_NoCounts_NoCounts := sb_NoCounts_NoCounts, sb_NoCounts_NoNumber := sb_NoCounts_NoNumber, fI_NoNumber := fI_NoNumber, ox_NoNumber := ox_NoNumber, xf_NoNumber := xf_NoNumber, xc_NoNumber := xc_NoNumber, nf_NoNumber := nf_NoNumber, sb_NoNumber_HallError := sb_NoNumber_HallError, sb_NoNumber_NoCounts := sb_NoNumber_NoCounts, sb_NoNumber_NoNumber := sb_NoNumber_NoNumber, fI_Unlike := fI_Unlike, ox_Unlike := ox_Unlike, xf_Unlike := xf_Unlike, xc_Unlike := xc_Unlike, nf_Unlike := nf_Unlike, sb_Unlike_HallError := sb_Unlike_HallError, sb_Unlike_NoCounts := sb_Unlike_NoCounts, sb_Unlike_NoNumber := sb_Unlike_NoNumber, hn := x_hn, htk := x_htk, ki_Counts := x_ki_Counts, kl_Counts := x_kl_Counts, kt_Counts := x_kt_Counts, z_all := PySem.W.mg_none_of X G z_all, z_bool := PySem.W.mg_none_of X G z_bool, z_int := PySem.W.mg_none_of X G z_int, z_isinstance := PySem.W.mg_none_of X G z_isinstance, z_len := PySem.W.mg_none_of X G z_len, z_list := PySem.W.mg_none_of X G z_list, z_max := PySem.W.mg_none_of X G z_max, z_min := PySem.W.mg_none_of X G z_min, z_range := PySem.W.mg_none_of X G z_range, z_super := PySem.W.mg_none_of X G z_super, z_tuple := PySem.W.mg_none_of X G z_tuple, z_zip := PySem.W.mg_none_of X G z_zip, t_LEAST_MEMBERS := t_LEAST_MEMBERS, g_LEAST_MEMBERS := PySem.W.mg_of X G g_LEAST_MEMBERS, t_MOST_MEMBERS := t_MOST_MEMBERS, g_MOST_MEMBERS := PySem.W.mg_of X G g_MOST_MEMBERS }
  exact ⟨_, fun s v => .of_eq rfl, fun base _ _ => ok_law T⟩
theorem walk {l : PySem.W.OpenLaw} [PF l.prog] {q : Program} {loose : List Str} {XP : (Str → Option Value) → Heap → Prop} {YP : World → Heap → Prop} {d : DefRec} {K : Params → PySem.W.Frag} (hn : l.most = some 63) (hdf : d.params.defaults = [])
    (hY : ∀ (w : World) (h : Heap), YP w h → (K w.params).In h)
    (F : ∀ (w : World) (mg : Str → Option Value) (fa : Addr) (h : Heap), (K w.params).In h → h.Ns mainGlobals mg → mg d.name = some (.ref fa) →
      ∃ fd : FuncData, (∀ (s : Shared) (u : Value), BindsTo s fd ⟨[u], []⟩ [("script", u)]) ∧ ∀ base : Heap, (K w.params).In base → base.Ns mainGlobals mg → FnOk l.prog w (K w.params) mg base CX0 8 fa fd ["script"] (sp_law (K w.params))) :
    PySem.W.WalkO q loose XP YP l.row.toRowW d [] (fun f vs => PySem.call f vs) :=
  L2.walk_of (n := 63) (k := 8) (x := "script") (CX := fun _ => CX0) (sp := fun w => sp_law (K w.params)) hn (by decide) hdf ⟨rfl, by decide, by decide⟩ hY F (fun _ _ a ns hl _ hS => ⟨a, ns, rfl, hS, hl, fun _ => rfl⟩) fun _ _ _ _ _ z => z
end CH
instance : CH.PF (PySem.Challenge.rw_causehall_k05_all_joined).prog := ⟨by rfl, by decide +kernel⟩
open PySem PySem.W PyProof.Rows
set_option maxRecDepth 100000 in
set_option maxHeartbeats 0 in
theorem PySem.Challenge.cw_causehall_k05_all_joined_holds : PySem.Challenge.rw_causehall_k05_all_joined.Holds := by
  w_on; o_law; k_head; (case hw => w_witness2)
  k_fill
  refine CH.walk (l := PySem.Challenge.rw_causehall_k05_all_joined) rfl rfl (fun w h Y => PySem.W.kIn_of Y) ?F
  case F =>
    intro w mg fa h KX G hmg
    refine' CH.all_mk KX G hmg ?aC_Unlike ?aC_NoNumber ?aC_NoCounts ?aC_HallError ?aC_Counts ?a_is_whole ?l_is_whole ?c_is_whole ?k_is_whole ?e_is_whole ?a_is_list ?l_is_list ?c_is_list ?k_is_list ?a_Counts_init ?i_Counts_init ?l_Counts_init ?c_Counts_init ?k_Counts_init ?a_Counts_len ?i_Counts_len ?l_Counts_len ?c_Counts_len ?k_Counts_len ?a_Counts_told ?i_Counts_told ?l_Counts_told ?c_Counts_told ?k_Counts_told ?a_Counts_check_like ?i_Counts_check_like ?l_Counts_check_like ?c_Counts_check_like ?k_Counts_check_like ?a_Counts_joined ?i_Counts_joined ?l_Counts_joined ?c_Counts_joined ?k_Counts_joined ?a_law_take ?l_law_take ?c_law_take ?k_law_take ?a_law_pool ?l_law_pool ?c_law_pool ?k_law_pool ?a_law_numbers ?l_law_numbers ?c_law_numbers ?k_law_numbers ?a_check_members ?l_check_members ?c_check_members ?k_check_members ?a_law_cell_at ?l_law_cell_at ?c_law_cell_at ?k_law_cell_at ?a_all_joined ?l_all_joined ?c_all_joined ?k_all_joined ?a_law_rows ?l_law_rows ?c_law_rows ?k_law_rows ?a_law_first ?l_law_first ?c_law_first ?k_law_first ?a_law_right ?l_law_right ?c_law_right ?k_law_right ?a_law ?l_law ?c_law ?k_law ?kC_Counts ?pg_Counts ?hd_Counts ?po_Counts ?sa_Counts ?mk_Counts ?ha_Counts ?hm_Counts ?ty_Counts ?nt_NoneType_Counts ?nt_bool_Counts ?nt_int_Counts ?nt_str_Counts ?nt_list_Counts ?nt_tuple_Counts ?nt_dict_Counts ?n_Counts__numbers ?kC_HallError ?kC_NoCounts ?kC_NoNumber ?kC_Unlike ?exC_HallError ?hdx_HallError ?ty_HallError ?ss_HallError ?exC_NoCounts ?hdx_NoCounts ?ty_NoCounts ?ss_NoCounts ?exC_NoNumber ?hdx_NoNumber ?ty_NoNumber ?ss_NoNumber ?exC_Unlike ?hdx_Unlike ?ty_Unlike ?ss_Unlike ?opq ?xhn ?xht ?ii_NoCounts ?lI_NoCounts ?coI_NoCounts ?cdI_NoCounts ?vfI_NoCounts ?clI_NoCounts ?in_NoCounts ?ov_NoCounts ?sax_NoCounts ?nf_NoCounts ?sB_NoCounts ?sC_NoCounts ?ti_NoCounts ?sup_NoCounts ?xga_NoCounts ?xgg_NoCounts ?xha_NoCounts ?xhm_NoCounts ?sb_NoCounts_HallError ?sb_NoCounts_NoCounts ?sb_NoCounts_NoNumber ?ii_NoNumber ?lI_NoNumber ?coI_NoNumber ?cdI_NoNumber ?vfI_NoNumber ?clI_NoNumber ?in_NoNumber ?ov_NoNumber ?sax_NoNumber ?nf_NoNumber ?sB_NoNumber ?sC_NoNumber ?ti_NoNumber ?sup_NoNumber ?xga_NoNumber ?xgg_NoNumber ?xha_NoNumber ?xhm_NoNumber ?sb_NoNumber_HallError ?sb_NoNumber_NoCounts ?sb_NoNumber_NoNumber ?ii_Unlike ?lI_Unlike ?coI_Unlike ?cdI_Unlike ?vfI_Unlike ?clI_Unlike ?in_Unlike ?ov_Unlike ?sax_Unlike ?nf_Unlike ?sB_Unlike ?sC_Unlike ?ti_Unlike ?sup_Unlike ?xga_Unlike ?xgg_Unlike ?xha_Unlike ?xhm_Unlike ?sb_Unlike_HallError ?sb_Unlike_NoCounts ?sb_Unlike_NoNumber ?x_hn ?x_htk ?x_ki_Counts ?x_kl_Counts ?x_kt_Counts ?z_all ?z_bool ?z_int ?z_isinstance ?z_len ?z_list ?z_max ?z_min ?z_range ?z_super ?z_tuple ?z_zip ?g_LEAST_MEMBERS ?g_MOST_MEMBERS
    (case aC_Unlike => k_is)
    (case aC_NoNumber => k_is)
    (case aC_NoCounts => k_is)
    (case aC_HallError => k_is)
    (case aC_Counts => k_is)
    (case a_is_whole => k_is)
    (case l_is_whole => k_is)
    (case c_is_whole => k_is)
    (case k_is_whole => k_is)
    (case e_is_whole => k_is)
    (case a_is_list => k_is)
    (case l_is_list => k_is)
    (case c_is_list => k_is)
    (case k_is_list => k_is)
    (case a_Counts_init => k_is)
    (case i_Counts_init => k_is)
    (case l_Counts_init => k_is)
    (case c_Counts_init => k_is)
    (case k_Counts_init => k_is)
    (case a_Counts_len => k_is)
    (case i_Counts_len => k_is)
    (case l_Counts_len => k_is)
    (case c_Counts_len => k_is)
    (case k_Counts_len => k_is)
    (case a_Counts_told => k_is)
    (case i_Counts_told => k_is)
    (case l_Counts_told => k_is)
    (case c_Counts_told => k_is)
    (case k_Counts_told => k_is)
    (case a_Counts_check_like => k_is)
    (case i_Counts_check_like => k_is)
    (case l_Counts_check_like => k_is)
    (case c_Counts_check_like => k_is)
    (case k_Counts_check_like => k_is)
    (case a_Counts_joined => k_is)
    (case i_Counts_joined => k_is)
    (case l_Counts_joined => k_is)
    (case c_Counts_joined => k_is)
    (case k_Counts_joined => k_is)
    (case a_law_take => k_is)
    (case l_law_take => k_is)
    (case c_law_take => k_is)
    (case k_law_take => k_is)
    (case a_law_pool => k_is)
    (case l_law_pool => k_is)
    (case c_law_pool => k_is)
    (case k_law_pool => k_is)
    (case a_law_numbers => k_is)
    (case l_law_numbers => k_is)
    (case c_law_numbers => k_is)
    (case k_law_numbers => k_is)
    (case a_check_members => k_is)
    (case l_check_members => k_is)
    (case c_check_members => k_is)
    (case k_check_members => k_is)
    (case a_law_cell_at => k_is)
    (case l_law_cell_at => k_is)
    (case c_law_cell_at => k_is)
    (case k_law_cell_at => k_is)
    (case a_all_joined => k_is)
    (case l_all_joined => k_is)
    (case c_all_joined => k_is)
    (case k_all_joined => k_is)
    (case a_law_rows => k_is)
    (case l_law_rows => k_is)
    (case c_law_rows => k_is)
    (case k_law_rows => k_is)
    (case a_law_first => k_is)
    (case l_law_first => k_is)
    (case c_law_first => k_is)
    (case k_law_first => k_is)
    (case a_law_right => k_is)
    (case l_law_right => k_is)
    (case c_law_right => k_is)
    (case k_law_right => k_is)
    (case a_law => k_is)
    (case l_law => k_is)
    (case c_law => k_is)
    (case k_law => k_is)
    (case kC_Counts => k_is)
    (case pg_Counts => k_is)
    (case hd_Counts => k_is)
    (case po_Counts => k_is)
    (case sa_Counts => k_is)
    (case mk_Counts => k_is)
    (case ha_Counts => k_is)
    (case hm_Counts => k_is)
    (case ty_Counts => k_is)
    (case nt_NoneType_Counts => k_is)
    (case nt_bool_Counts => k_is)
    (case nt_int_Counts => k_is)
    (case nt_str_Counts => k_is)
    (case nt_list_Counts => k_is)
    (case nt_tuple_Counts => k_is)
    (case nt_dict_Counts => k_is)
    (case n_Counts__numbers => k_is)
    (case kC_HallError => k_is)
    (case kC_NoCounts => k_is)
    (case kC_NoNumber => k_is)
    (case kC_Unlike => k_is)
    (case exC_HallError => k_is)
    (case hdx_HallError => k_is)
    (case ty_HallError => k_is)
    (case ss_HallError => k_is)
    (case exC_NoCounts => k_is)
    (case hdx_NoCounts => k_is)
    (case ty_NoCounts => k_is)
    (case ss_NoCounts => k_is)
    (case exC_NoNumber => k_is)
    (case hdx_NoNumber => k_is)
    (case ty_NoNumber => k_is)
    (case ss_NoNumber => k_is)
    (case exC_Unlike => k_is)
    (case hdx_Unlike => k_is)
    (case ty_Unlike => k_is)
    (case ss_Unlike => k_is)
    (case opq => k_is)
    (case xhn => k_is)
    (case xht => k_is)
    (case ii_NoCounts => k_is)
    (case lI_NoCounts => k_is)
    (case coI_NoCounts => k_is)
    (case cdI_NoCounts => k_is)
    (case vfI_NoCounts => exact rfl)
    (case clI_NoCounts => k_is)
    (case in_NoCounts => kx_is)
    (case ov_NoCounts => kx_is)
    (case sax_NoCounts => k_is)
    (case nf_NoCounts => k_is)
    (case sB_NoCounts => k_is)
    (case sC_NoCounts => k_is)
    (case ti_NoCounts => k_is)
    (case sup_NoCounts => ks_is)
    (case xga_NoCounts => k_is)
    (case xgg_NoCounts => k_is)
    (case xha_NoCounts => k_is)
    (case xhm_NoCounts => k_is)
    (case sb_NoCounts_HallError => k_is)
    (case sb_NoCounts_NoCounts => k_is)
    (case sb_NoCounts_NoNumber => k_is)
    (case ii_NoNumber => k_is)
    (case lI_NoNumber => k_is)
    (case coI_NoNumber => k_is)
    (case cdI_NoNumber => k_is)
    (case vfI_NoNumber => exact rfl)
    (case clI_NoNumber => k_is)
    (case in_NoNumber => kx_is)
    (case ov_NoNumber => kx_is)
    (case sax_NoNumber => k_is)
    (case nf_NoNumber => k_is)
    (case sB_NoNumber => k_is)
    (case sC_NoNumber => k_is)
    (case ti_NoNumber => k_is)
    (case sup_NoNumber => ks_is)
    (case xga_NoNumber => k_is)
    (case xgg_NoNumber => k_is)
    (case xha_NoNumber => k_is)
    (case xhm_NoNumber => k_is)
    (case sb_NoNumber_HallError => k_is)
    (case sb_NoNumber_NoCounts => k_is)
    (case sb_NoNumber_NoNumber => k_is)
    (case ii_Unlike => k_is)
    (case lI_Unlike => k_is)
    (case coI_Unlike => k_is)
    (case cdI_Unlike => k_is)
    (case vfI_Unlike => exact rfl)
    (case clI_Unlike => k_is)
    (case in_Unlike => kx_is)
    (case ov_Unlike => kx_is)
    (case sax_Unlike => k_is)
    (case nf_Unlike => k_is)
    (case sB_Unlike => k_is)
    (case sC_Unlike => k_is)
    (case ti_Unlike => k_is)
    (case sup_Unlike => ks_is)
    (case xga_Unlike => k_is)
    (case xgg_Unlike => k_is)
    (case xha_Unlike => k_is)
    (case xhm_Unlike => k_is)
    (case sb_Unlike_HallError => k_is)
    (case sb_Unlike_NoCounts => k_is)
    (case sb_Unlike_NoNumber => k_is)
    (case x_hn => k_is)
    (case x_htk => k_is)
    (case x_ki_Counts => k_is)
    (case x_kl_Counts => k_is)
    (case x_kt_Counts => k_is)
    (case z_all => k_is)
    (case z_bool => k_is)
    (case z_int => k_is)
    (case z_isinstance => k_is)
    (case z_len => k_is)
    (case z_list => k_is)
    (case z_max => k_is)
    (case z_min => k_is)
    (case z_range => k_is)
    (case z_super => k_is)
    (case z_tuple => k_is)
    (case z_zip => k_is)
    (case g_LEAST_MEMBERS => k_is)
    (case g_MOST_MEMBERS => k_is)
