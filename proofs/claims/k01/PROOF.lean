import PyProof.Rows.All
import Wide.All
import OpenK.AllK
import Wide.FinOn
import HandS.ForMost
import HandS.Wide
import HandS.IsInst
import HandS.Style
import HandS.Defaults
import HandS.Walk
import KE.IntTextLaws
import PySem.Challenge.RW_causehall_k01_words
set_option Elab.async false
set_option linter.all false
set_option maxRecDepth 100000
set_option maxHeartbeats 4000000
namespace CH
open PySem PySem.Spec PyProof.Rows L2
/-! ### readings, one a primitive -/
section
variable {K : PySem.W.Frag} {σ : L2.St} {H H1 H2 : Hp} {Q : VK} {D : Ends} {x y z v : V} {ta tb tc te to ti : TE} {t u : TT} {r r' : R2} {g : TG} {A B : Prop} {a p C dx : Addr} {fs : List (Str × V)} {f : Str}
theorem q_seq {t u : TS} (h : t { D with nx := u D } σ H) : tSeq t u D σ H := h
theorem q_next (h : D.nx σ H) : tNext D σ H := h
theorem q_asg (h : te σ H fun x H1 => g x σ H1 D.nx) : tAsg te g D σ H := h
theorem q_drop (h : te σ H fun _ H1 => D.nx σ H1) : tDrop te D σ H := h
theorem q_ret (h : te σ H D.rt) : tRet te D σ H := h
theorem q_retN (h : D.rt .non H) : tRetN D σ H := h
theorem q_if {c : TT} {t u : TS} (h : c σ H fun b H1 => if b = true then t D σ H1 else u D σ H1) : tIfS c t u D σ H := h
theorem q_brk (h : D.bk σ H) : tBreak D σ H := h
theorem q_cont (h : D.ct σ H) : tCont D σ H := h
theorem q_gname {i : Nat} {Q : L2.St → Hp → Prop} (h : Q (σ.set i (some v)) H) : gName i v σ H Q := h
theorem q_gsub {s : V → V → V → Hp → (Hp → Prop) → Prop} {Q : L2.St → Hp → Prop} (h : to σ H fun o H1 => ti σ H1 fun i H2 => s o i v H2 fun H3 => Q σ H3) : gSub to ti s v σ H Q := h
theorem q_gnil {Q : L2.St → Hp → Prop} (h : Q σ H) : gNil [] σ H Q := ⟨rfl, h⟩
theorem q_gcons {t : TG} {u : TGs} {r : List V} {Q : L2.St → Hp → Prop} (h : t v σ H fun σ' H' => u r σ' H' Q) : gCons t u (v :: r) σ H Q := ⟨v, r, rfl, h⟩
theorem q_gtup {n : Nat} {t : TGs} {xs : List V} {Q : L2.St → Hp → Prop} (h1 : SqT K H a xs) (h2 : xs.length = n) (h : t xs σ H Q) : gTup K n t (.ref a) σ H Q := ⟨a, xs, rfl, h1, h2, h⟩
theorem q_var {i : Nat} (e : σ[i]? = some (some v)) (h : Q v H) : tVar i σ H Q := ⟨v, e, h⟩
theorem q_c (h : Q v H) : tC v σ H Q := h
theorem q_op (h : ta σ H fun x H1 => tb σ H1 fun y H2 => r x y H2 Q) : tOp r ta tb σ H Q := h
theorem q_un {r : V → Hp → VK → Prop} (h : ta σ H fun x H1 => r x H1 Q) : tUn r ta σ H Q := h
theorem q_I {c : Int → Int → Prop} {gg : Int → Int → V} {i j : Int} (hc : c i j) (h : Q (gg i j) H) : rI c gg (.int i) (.int j) H Q := ⟨i, j, rfl, rfl, hc, h⟩
theorem q_I0 {gg : Int → Int → V} {i j : Int} (h : Q (gg i j) H) : rI0 gg (.int i) (.int j) H Q := ⟨i, j, rfl, rfl, h⟩
theorem q_U {gg : Int → V} {i : Int} (h : Q (gg i) H) : rU gg (.int i) H Q := ⟨i, rfl, h⟩
theorem q_eqI {i j : Int} (h : Q (.bl (decide (i = j))) H) : rEq (.int i) (.int j) H Q := ⟨rfl, by
  have e : decide (V.int i = V.int j) = decide (i = j) := by simp
  rw [e]; exact h⟩
theorem q_eqS {i j : Str} (h : Q (.bl (decide (i = j))) H) : rEq (.str i) (.str j) H Q := ⟨rfl, by
  have e : decide (V.str i = V.str j) = decide (i = j) := by simp
  rw [e]; exact h⟩
theorem q_eqB {i j : Bool} (h : Q (.bl (decide (i = j))) H) : rEq (.bl i) (.bl j) H Q := ⟨rfl, by
  have e : decide (V.bl i = V.bl j) = decide (i = j) := by simp
  rw [e]; exact h⟩
theorem q_eq0 (h1 : scal x y = true) (h2 : ¬ x = y) (h : Q (.bl false) H) : rEq x y H Q := ⟨h1, by rw [decide_eq_false h2]; exact h⟩
theorem q_neI {i j : Int} (h : Q (.bl (!decide (i = j))) H) : rNe (.int i) (.int j) H Q := ⟨rfl, by
  have e : decide (V.int i = V.int j) = decide (i = j) := by simp
  rw [e]; exact h⟩
theorem q_neS {i j : Str} (h : Q (.bl (!decide (i = j))) H) : rNe (.str i) (.str j) H Q := ⟨rfl, by
  have e : decide (V.str i = V.str j) = decide (i = j) := by simp
  rw [e]; exact h⟩
theorem q_neB {i j : Bool} (h : Q (.bl (!decide (i = j))) H) : rNe (.bl i) (.bl j) H Q := ⟨rfl, by
  have e : decide (V.bl i = V.bl j) = decide (i = j) := by simp
  rw [e]; exact h⟩
theorem q_ne0 (h1 : scal x y = true) (h2 : ¬ x = y) (h : Q (.bl true) H) : rNe x y H Q := ⟨h1, by rw [decide_eq_false h2]; exact h⟩
theorem q_ixL {xs : List V} {i : Int} (h : SqL K H p xs) (ha : atI xs i = some v) (q : Q v H) : rIxL K (.ref p) (.int i) H Q := ⟨p, xs, i, v, rfl, rfl, h, ha, q⟩
theorem q_ixT {xs : List V} {i : Int} (h : SqT K H p xs) (ha : atI xs i = some v) (q : Q v H) : rIxT K (.ref p) (.int i) H Q := ⟨p, xs, i, v, rfl, rfl, h, ha, q⟩
theorem q_ixS {s : Str} {i : Int} {c : Nat} (h : s.length ≤ sizeLine) (ha : atI s.cps.toList i = some c) (q : Q (.str ⟨#[c]⟩) H) : rIxS (.str s) (.int i) H Q := ⟨s, i, c, rfl, rfl, h, ha, q⟩
theorem q_setL {xs : List V} {k : Int} {j : Nat} {Q : Hp → Prop} (h : H p = some (.lst xs)) (hk : ixN xs.length k = some j) (q : Q (upd H p (.lst (xs.set j v)))) : rSetL (.ref p) (.int k) v H Q := ⟨p, xs, k, j, rfl, rfl, h, hk, q⟩
theorem q_test {Q : Bool → Hp → Prop} (h : te σ H fun x H' => ∃ k, x = .bl k ∧ Q k H') : tTest te σ H Q := h
theorem q_B {Q : Bool → Hp → Prop} (h : te σ H fun x H' => ∃ k, x = .bl k ∧ Q k H') : tB te σ H Q := h
theorem q_k {P : Bool → Prop} {b : Bool} (h : P b) : ∃ k, V.bl b = .bl k ∧ P k := ⟨b, rfl, h⟩
theorem q_and {Q : Bool → Hp → Prop} (h : t σ H fun c H1 => if c = true then u σ H1 Q else Q false H1) : tAnd t u σ H Q := h
theorem q_or {Q : Bool → Hp → Prop} (h : t σ H fun c H1 => if c = true then Q true H1 else u σ H1 Q) : tOr t u σ H Q := h
theorem q_not {Q : Bool → Hp → Prop} (h : t σ H fun c H1 => Q (!c) H1) : tNot t σ H Q := h
theorem q_andV (h : ta σ H fun x H1 => ∃ c, x = .bl c ∧ if c = true then tb σ H1 Q else Q (.bl false) H1) : tAndV ta tb σ H Q := h
theorem q_orV (h : ta σ H fun x H1 => ∃ c, x = .bl c ∧ if c = true then Q (.bl true) H1 else tb σ H1 Q) : tOrV ta tb σ H Q := h
theorem q_notV (h : ta σ H fun x H1 => ∃ c, x = .bl c ∧ Q (.bl (!c)) H1) : tNotV ta σ H Q := h
theorem q_ifE (h : t σ H fun c H1 => if c = true then ta σ H1 Q else tb σ H1 Q) : tIf t ta tb σ H Q := h
theorem q_chain (h : ta σ H fun x H1 => tb σ H1 fun y H2 => r x y H2 fun z H3 => ∃ k, z = .bl k ∧ (if k = true then tc σ H3 fun w' H4 => r' y w' H4 Q else Q (.bl false) H3)) : tChain r r' ta tb tc σ H Q := h
theorem q_nil {Q : List V → Hp → Prop} (h : Q [] H) : tNil σ H Q := h
theorem q_cons {tr : TA} {Q : List V → Hp → Prop} (h : ta σ H fun x H1 => tr σ H1 fun xs H2 => Q (x :: xs) H2) : tCons ta tr σ H Q := h
theorem q_cb {r : List V → Hp → VK → Prop} {t : TA} (h : t σ H fun vs H1 => r vs H1 Q) : tCB r t σ H Q := h
theorem q_call {sp : Sp} {dvs : List V} {E : XK} {t : TA} (h : t σ H fun vs H1 => sp (vs ++ dvs) H1 Q E) : tCall sp dvs E t σ H Q := h
theorem q_lst {t : TA} (h : t σ H fun xs H1 => xs.length ≤ sizeLine ∧ ∀ p, H1 p = none → Q (.ref p) (upd H1 p (.lst xs))) : tLst t σ H Q := h
theorem q_tup {t : TA} (h : t σ H fun xs H1 => xs.length ≤ sizeLine ∧ ∀ p, H1 p = none → Q (.ref p) (upd H1 p (.tup xs))) : tTup t σ H Q := h
theorem q_new {P : Prop} {n : Nat} (hn : n ≤ 1000) (h : P) : n ≤ sizeLine ∧ P := ⟨Nat.le_trans hn (by decide), h⟩
theorem q_ift (h : A) : if true = true then A else B := iteT h
theorem q_iff (h : B) : if false = true then A else B := iteF h
theorem q_ifd {P : Prop} [Decidable P] (hp : P) (h : A) : if decide P = true then A else B := by rw [decide_eq_true hp]; exact iteT h
theorem q_ifn {P : Prop} [Decidable P] (hp : ¬ P) (h : B) : if decide P = true then A else B := by rw [decide_eq_false hp]; exact iteF h
theorem q_ifs {b : Bool} (h1 : b = true → A) (h2 : b = false → B) : if b = true then A else B := by
  cases b with
  | true => exact iteT (h1 rfl)
  | false => exact iteF (h2 rfl)
theorem q_ifx {P : Prop} [Decidable P] (h1 : P → A) (h2 : ¬ P → B) : if decide P = true then A else B := by
  by_cases h : P
  · rw [decide_eq_true h]; exact iteT (h1 h)
  · rw [decide_eq_false h]; exact iteF (h2 h)
theorem q_fld (h : ta σ H fun x H1 => ∃ a C dx fs v, x = .ref a ∧ H1 a = some (.ins C dx fs) ∧ Cls K C ∧ NoAttr K C f ∧ fs.lookup f = some v ∧ Q v H1) : tFld K ta f σ H Q := h
theorem q_sl {rr : V → Option Int → Option Int → Hp → VK → Prop} {tl th : TO} (h : te σ H fun x H1 => tl σ H1 fun l H2 => th σ H2 fun u H3 => rr x l u H3 Q) : tSl rr te tl th σ H Q := h
theorem q_nopart {Q : Option Int → Hp → Prop} (h : Q none H) : tNoPart σ H Q := h
theorem q_part {Q : Option Int → Hp → Prop} (h : te σ H fun x H1 => ∃ i, x = .int i ∧ Q (some i) H1) : tPart te σ H Q := h
theorem q_i {P : Int → Prop} {i : Int} (h : P i) : ∃ k, V.int i = .int k ∧ P k := ⟨i, rfl, h⟩
theorem q_slL {xs : List V} {lo hi : Option Int} (h : SqL K H p xs) (q : ∀ d, H d = none → Q (.ref d) (upd H d (.lst (cutV xs lo hi)))) : rSlL K (.ref p) lo hi H Q := ⟨p, xs, rfl, h, q⟩
theorem q_slT {xs : List V} {lo hi : Option Int} (h : SqT K H p xs) (hn : ¬ (HT.sIx xs.length 0 lo = 0 ∧ HT.sIx xs.length xs.length hi = xs.length)) (q : ∀ d, H d = none → Q (.ref d) (upd H d (.tup (cutV xs lo hi)))) : rSlT K (.ref p) lo hi H Q := ⟨p, xs, rfl, h, hn, q⟩
theorem q_cat {xs ys : List V} {b : Addr} (h : H p = some (.lst xs)) (h' : H b = some (.lst ys)) (hl : xs.length + ys.length ≤ sizeLine) (q : ∀ d, H d = none → Q (.ref d) (upd H d (.lst (xs ++ ys)))) : rCat (.ref p) (.ref b) H Q := ⟨p, b, xs, ys, rfl, rfl, h, h', hl, q⟩
theorem q_rep {xs : List V} {k : Int} (h : H p = some (.lst xs)) (h1 : -(2 ^ 63) ≤ k) (h2 : k < 2 ^ 63) (hl : xs.length * k.toNat ≤ sizeLine) (q : ∀ d, H d = none → Q (.ref d) (upd H d (.lst (List.replicate k.toNat xs).flatten))) : rRep (.ref p) (.int k) H Q := ⟨p, k, xs, rfl, rfl, h, h1, h2, hl, q⟩
theorem q_append {xs : List V} (h : H p = some (.lst xs)) (hl : xs.length < sizeLine) (q : Q .non (upd H p (.lst (xs ++ [y])))) : rAppend (.ref p) [y] H Q := ⟨p, xs, y, rfl, rfl, h, hl, q⟩
theorem q_bm {T : String} {rr : V → List V → Hp → VK → Prop} {t : TA} (h : to σ H fun x H1 => tyV K T x H1 ∧ t σ H1 fun xs H2 => rr x xs H2 Q) : tBM K T rr to t σ H Q := h
theorem q_tyL {xs : List V} {P : Prop} (h : H p = some (.lst xs)) (q : P) : tyV K "list" (.ref p) H ∧ P := ⟨.inl ⟨rfl, _, SqL.of h⟩, q⟩
theorem q_isB {a b : Bool} (q : Q (.bl (decide (a = b))) H) : rIsB (.bl a) (.bl b) H Q := ⟨a, b, rfl, rfl, q⟩
theorem q_notB {a b : Bool} (q : Q (.bl (!decide (a = b))) H) : rNotB (.bl a) (.bl b) H Q := ⟨a, b, rfl, rfl, q⟩
end
/-! ### the same readings under names -/
def rAddStr : R2 := fun x y H Q => ∃ i j, x = .str i ∧ y = .str j ∧ i.length + j.length ≤ sizeLine ∧ Q (.str (i ++ j)) H
def rLtStr : R2 := fun x y H Q => ∃ i j, x = .str i ∧ y = .str j ∧ Q (.bl (decide (i.cps.toList < j.cps.toList))) H
def rLeStr : R2 := fun x y H Q => ∃ i j, x = .str i ∧ y = .str j ∧ Q (.bl (!decide (j.cps.toList < i.cps.toList))) H
def rInSign : R2 := fun x y H Q => ∃ (c : Nat) (z : Str), x = .str ⟨#[c]⟩ ∧ y = .str z ∧ Q (.bl (decide (c ∈ z.cps.toList))) H
def rIsNon : R2 := fun x y H Q => y = .non ∧ Q (.bl (decide (x = .non))) H
def rNotNon : R2 := fun x y H Q => y = .non ∧ Q (.bl (!decide (x = .non))) H
def rLenA (K : PySem.W.Frag) : List V → Hp → VK → Prop := fun xs H Q => ∃ x n, xs = [x] ∧ LenV K x H n ∧ Q (.int n) H
def rMax2 : List V → Hp → VK → Prop := fun xs H Q => ∃ i j, xs = [.int i, .int j] ∧ Q (.int (if j > i then j else i)) H
def rMin2 : List V → Hp → VK → Prop := fun xs H Q => ∃ i j, xs = [.int i, .int j] ∧ Q (.int (if j < i then j else i)) H
def rIntStr : List V → Hp → VK → Prop := fun xs H Q => ∃ a n, xs = [.str a] ∧ PySem.intText? a = some n ∧ a.length ≤ 640 ∧ Q (.int n) H
section
variable {X : Cx}
theorem op_addStr : OpR X (binaryOp .Add) rAddStr := op_add_str
theorem op_ltStr : OpR X (compareOp .Lt) rLtStr := op_lt_str
theorem op_leStr : OpR X (compareOp .LtE) rLeStr := op_le_str
theorem op_inSign : OpR X (compareOp .In) rInSign := op_in_sign
theorem op_isNon : OpR X (compareOp .Is) rIsNon := op_isN
theorem op_notNon : OpR X (compareOp .IsNot) rNotNon := op_notN
theorem call_lenA : CallR X (.builtin "len") (rLenA X.K) := call_len
theorem call_maxA (hc : X.calm = true) : CallR X (.builtin "max") rMax2 := call_max2 hc
theorem call_minA (hc : X.calm = true) : CallR X (.builtin "min") rMin2 := call_min2 hc
theorem call_intStr : CallR X (.type "int") rIntStr := call_int_str
end
section
variable {K : PySem.W.Frag} {H : Hp} {Q : VK} {x v : V} {p : Addr}
theorem q_addStr {i j : Str} (h : i.length + j.length ≤ sizeLine) (q : Q (.str (i ++ j)) H) : rAddStr (.str i) (.str j) H Q := ⟨i, j, rfl, rfl, h, q⟩
theorem q_ltStr {i j : Str} (q : Q (.bl (decide (i.cps.toList < j.cps.toList))) H) : rLtStr (.str i) (.str j) H Q := ⟨i, j, rfl, rfl, q⟩
theorem q_leStr {i j : Str} (q : Q (.bl (!decide (j.cps.toList < i.cps.toList))) H) : rLeStr (.str i) (.str j) H Q := ⟨i, j, rfl, rfl, q⟩
theorem q_inSign {c : Nat} {z : Str} (q : Q (.bl (decide (c ∈ z.cps.toList))) H) : rInSign (.str ⟨#[c]⟩) (.str z) H Q := ⟨c, z, rfl, rfl, q⟩
theorem q_isNonT (q : Q (.bl true) H) : rIsNon .non .non H Q := ⟨rfl, by rw [decide_eq_true rfl]; exact q⟩
theorem q_isNonF (h : ¬ x = .non) (q : Q (.bl false) H) : rIsNon x .non H Q := ⟨rfl, by rw [decide_eq_false h]; exact q⟩
theorem q_notNonF (q : Q (.bl false) H) : rNotNon .non .non H Q := ⟨rfl, by rw [decide_eq_true rfl]; exact q⟩
theorem q_notNonT (h : ¬ x = .non) (q : Q (.bl true) H) : rNotNon x .non H Q := ⟨rfl, by rw [decide_eq_false h]; exact q⟩
theorem q_lenS {s : Str} (h : s.length ≤ sizeLine) (q : Q (.int (s.length : Nat)) H) : rLenA K [.str s] H Q := ⟨_, _, rfl, ⟨h, rfl⟩, q⟩
theorem q_lenL {xs : List V} (h : SqL K H p xs) (q : Q (.int (xs.length : Nat)) H) : rLenA K [.ref p] H Q := ⟨_, _, rfl, .inl ⟨xs, h, rfl⟩, q⟩
theorem q_lenT {xs : List V} (h : SqT K H p xs) (q : Q (.int (xs.length : Nat)) H) : rLenA K [.ref p] H Q := ⟨_, _, rfl, .inr ⟨xs, h, rfl⟩, q⟩
theorem q_max2 {i j : Int} (q : Q (.int (max i j)) H) : rMax2 [.int i, .int j] H Q := ⟨i, j, rfl, by
  have e : (if j > i then j else i) = max i j := by omega
  rw [e]; exact q⟩
theorem q_min2 {i j : Int} (q : Q (.int (min i j)) H) : rMin2 [.int i, .int j] H Q := ⟨i, j, rfl, by
  have e : (if j < i then j else i) = min i j := by omega
  rw [e]; exact q⟩
theorem q_intStr {a : Str} {n : Int} (h : PySem.intText? a = some n) (hl : a.length ≤ 640) (q : Q (.int n) H) : rIntStr [.str a] H Q := ⟨a, n, rfl, h, hl, q⟩
theorem q_isi {c : V} {t u : Value} {b : Bool} (hc : ClsV c u) (ht : TyX K H x t) (hk : PySem.W.kitOne K t u = some b) (q : Q (.bl b) H) : rIsi K [x, c] H Q := ⟨x, c, t, u, b, rfl, hc, ht, hk, q⟩
end
theorem line_of {n : Nat} (h : n ≤ 16777216) : n ≤ sizeLine := by rw [sizeLine_eq]; exact h
theorem line_lt {n : Nat} (h : n < 16777216) : n < sizeLine := by rw [sizeLine_eq]; exact h
section
variable {K : PySem.W.Frag} {x qual : Str} {params : Arguments} {body : List Stmt} {scope : Scope} {dvs : List V} {f : Addr} {fd : FuncData} {ps : List Str}
/-- f(e, .., k = v, ..): all that have no value by their places are told by their names, in the parameters' order -/
theorem _root_.L2.FunD.kbinds1 (F : FunD K x qual params body scope dvs [] f fd) (n : Nat) (ks : List Str) (hd : dvs ≠ [])
    (h : ∀ (T : Addr) (kV doc pm : Value) (an : Option Addr) (cdv ct : Value) (us its ws : List Value), us.length = n → its.length = dvs.length → ws.length = ks.length →
      ∃ k, bindArgs (PySem.W.fnOf x qual params body scope (.ref T) kV doc pm an cdv ct) ⟨us, ks.zip ws⟩ = seqItems? (.ref T) >>= k ∧ k (some its.toArray) = pure (ps.zip (us ++ ws))) :
    KBn K fd ps n ks (fun us ws => us ++ ws) (fun vs zs => vs ++ zs) := by
  obtain ⟨oc, od, dV, kV, doc, pm, an, cdv, ct, osl, rfl, lk, hcd, hD, hK⟩ := F.ex
  rcases hD with ⟨e, _⟩ | ⟨_, T, o, its, m, rfl, lT, oT, rT⟩
  · exact absurd e hd
  · refine ⟨fun s us ws X l1 l2 => ?_, fun r1 r2 => r1.append r2⟩
    obtain ⟨k, e1, e2⟩ := h T kV doc pm an cdv ct us its ws l1 rT.length.symm l2
    refine BindsTo.of_looks fun M => ?_
    rw [e1]
    exact looks_items X lT oT (.of_pure e2)
end
section
variable {K : PySem.W.Frag} {σ : L2.St} {H : Hp} {Q : VK} {a C : Addr}
theorem q_callN {n m : Nat} {sp : Sp} {gV : List V → List V → List V} {E : XK} {t tk : TA} (h : t σ H fun vs H1 => tk σ H1 fun zs H2 => vs.length = n ∧ zs.length = m ∧ sp (gV vs zs) H2 Q E) : tCallN n m sp gV E t tk σ H Q := h
theorem q_2 {a b c d : Nat} {P : Prop} (h1 : a = b) (h2 : c = d) (h : P) : a = b ∧ c = d ∧ P := ⟨h1, h2, h⟩
theorem q_make {sp : Sp} {dvs : List V} {E : XK} {t : TA} (h : t σ H fun vs H1 => ∀ x dx, H1 x = none → H1 dx = none → dx ≠ x → sp (.ref x :: (vs ++ dvs)) (upd (upd H1 dx (.own x)) x (.ins C dx [])) (fun v H2 => v = .non ∧ Q (.ref x) H2) E) : tMake C sp dvs E t σ H Q := h
theorem q_slS {z : Str} {lo hi : Option Int} (h : z.length ≤ sizeLine) (q : Q (.str (cutS z lo hi)) H) : rSlS (.str z) lo hi H Q := ⟨z, rfl, h, q⟩
end
section
variable {K : PySem.W.Frag} {σ : L2.St} {H : Hp} {D : Ends}
theorem q_for {wi : TI} {g : TG} {tb : TS} (h : wi σ H fun J H1 => ∃ W : Nat → Nat → L2.St → Hp → Prop, (∃ m, W 0 m σ H1) ∧ ∀ i m σ H, W i m σ H →
  (J.stop i H ∧ D.nx σ H) ∨ (J.go i H ∧ ∃ N : L2.St → Hp → Prop, (∀ σ' H', N σ' H' → ∃ m', m' < m ∧ W (i + 1) m' σ' H') ∧ ∀ x H', J.yld i H x H' → g x σ H' fun σ2 H2 => tb { D with nx := N, ct := N, bk := D.nx } σ2 H2)) : tFor wi g tb D σ H := h
theorem q_rng1 {ta : TA} {R : It → Hp → Prop} (h : ta σ H fun vs H1 => ∃ j : Int, vs = [.int j] ∧ -(2 ^ 62) ≤ j ∧ j < 2 ^ 62 ∧ R (Itr 0 j.toNat) H1) : iRng1 ta σ H R := h
theorem q_rng1b {j : Int} {R : Int → Prop} (h1 : -(2 ^ 62) ≤ j) (h2 : j < 2 ^ 62) (h : R j) : ∃ k : Int, [V.int j] = [.int k] ∧ -(2 ^ 62) ≤ k ∧ k < 2 ^ 62 ∧ R k := ⟨j, rfl, h1, h2, h⟩
theorem q_iList {tl : TE} {R : It → Hp → Prop} (h : tl σ H fun x H1 => ∃ a, x = .ref a ∧ (∃ xs, SqL K H1 a xs) ∧ R (Itl K a) H1) : iList K tl σ H R := h
theorem q_iListb {a : Addr} {H : Hp} {xs : List V} {R : Addr → Prop} (h1 : SqL K H a xs) (h : R a) : ∃ b, V.ref a = .ref b ∧ (∃ xs, SqL K H b xs) ∧ R b := ⟨a, rfl, ⟨xs, h1⟩, h⟩
theorem q_iStr {te : TE} {R : It → Hp → Prop} (h : te σ H fun v H1 => ∃ x, v = .str x ∧ R (Its x) H1) : iStr te σ H R := h
theorem q_iStrb {s : Str} {R : Str → Prop} (h : R s) : ∃ x, V.str s = .str x ∧ R x := ⟨s, rfl, h⟩
theorem q_lc {wi : TI} {g : TG} {tt : TT} {te : TE} {vs : List Nat} {Q : VK} (h : wi σ H fun J H1 => ∀ D, H1 D = none → ∃ W : Nat → Nat → Hp → Prop, (∃ m, W 0 m (upd H1 D (.lst []))) ∧ ∀ i m H, W i m H →
  (J.stop i H ∧ Q (.ref D) H) ∨ (J.go i H ∧ ∃ Nx : Hp → Prop, (∀ H', Nx H' → ∃ m', m' < m ∧ W (i + 1) m' H') ∧ ∀ x H', J.yld i H x H' → g x (wipe σ vs) H' fun σ2 H2 => wipe σ2 vs = wipe σ vs ∧ tt σ2 H2 fun b H3 =>
    if b = true then te σ2 H3 fun y H4 => ∃ acc, H4 D = some (.lst acc) ∧ acc.length < sizeLine ∧ Nx (upd H4 D (.lst (acc ++ [y]))) else Nx H3)) : tLc wi g tt te vs σ H Q := h
end

section
variable {σ : L2.St} {H : Hp} {Q : VK} {C : Addr} {m : Str}
theorem q_call0 {sp : Sp} {E : XK} {t : TA} (h : t σ H fun vs H1 => sp vs H1 Q E) : tCall sp [] E t σ H Q := by
  have e : (fun vs H1 => sp (vs ++ []) H1 Q E) = fun vs H1 => sp vs H1 Q E := by
    funext vs H1
    rw [List.append_nil]
  show t σ H fun vs H1 => sp (vs ++ []) H1 Q E
  rw [e]
  exact h
theorem q_make0 {sp : Sp} {E : XK} {t : TA} (h : t σ H fun vs H1 => ∀ x dx, H1 x = none → H1 dx = none → dx ≠ x → sp (.ref x :: vs) (upd (upd H1 dx (.own x)) x (.ins C dx [])) (fun v H2 => v = .non ∧ Q (.ref x) H2) E) : tMake C sp [] E t σ H Q := by
  have e : (fun vs H1 => ∀ x dx, H1 x = none → H1 dx = none → dx ≠ x → sp (.ref x :: (vs ++ [])) (upd (upd H1 dx (.own x)) x (.ins C dx [])) (fun v H2 => v = .non ∧ Q (.ref x) H2) E) = fun vs H1 => ∀ x dx, H1 x = none → H1 dx = none → dx ≠ x → sp (.ref x :: vs) (upd (upd H1 dx (.own x)) x (.ins C dx [])) (fun v H2 => v = .non ∧ Q (.ref x) H2) E := by
    funext vs H1
    rw [List.append_nil]
  show t σ H fun vs H1 => ∀ x dx, H1 x = none → H1 dx = none → dx ≠ x → sp (.ref x :: (vs ++ [])) (upd (upd H1 dx (.own x)) x (.ins C dx [])) (fun v H2 => v = .non ∧ Q (.ref x) H2) E
  rw [e]
  exact h
theorem q_meth0 {sp : Sp} {E : XK} {ta : TE} {t : TA} (h : ta σ H fun x H1 => ∃ a dx fs, x = .ref a ∧ H1 a = some (.ins C dx fs) ∧ fs.lookup m = none ∧ t σ H1 fun vs H2 => sp (x :: vs) H2 Q E) : tMeth C m sp [] E ta t σ H Q := by
  have e : ∀ x, (fun vs H2 => sp (x :: (vs ++ [])) H2 Q E) = fun vs H2 => sp (x :: vs) H2 Q E := fun x => by
    funext vs H1
    rw [List.append_nil]
  show ta σ H fun x H1 => ∃ a dx fs, x = .ref a ∧ H1 a = some (.ins C dx fs) ∧ fs.lookup m = none ∧ t σ H1 fun vs H2 => sp (x :: (vs ++ [])) H2 Q E
  simp only [e]
  exact h
end
/-! ### heaps that grow; comprehensions whose elements change nothing -/
theorem _root_.L2.Same.new {H : Hp} {p : Addr} {o : HO} (h : H p = none) : Same H (upd H p o) := fun b u e => by
  rw [upd_ne (ne_of_none e h)]
  exact e
theorem _root_.L2.Same.snew {H H' : Hp} {p : Addr} {o : HO} (s : Same H H') (h : H p = none) : Same H (upd H' p o) := fun b u e => by
  rw [upd_ne (ne_of_none e h)]
  exact s b u e
theorem _root_.L2.Same.seqT {K : PySem.W.Frag} {H H' : Hp} {a : Addr} {xs : List V} (e : Same H H') (h : SqT K H a xs) : SqT K H' a xs := by
  rcases h with (h | ⟨o, h⟩) | h
  · exact .inl (.inl (e _ _ h))
  · exact .inl (.inr ⟨o, e _ _ h⟩)
  · exact .inr h
theorem wipe_set {σ : L2.St} {i : Nat} {x : Option V} : wipe ((wipe σ [i]).set i x) [i] = wipe σ [i] := by
  show ((σ.set i none).set i x).set i none = σ.set i none
  rw [List.set_set, List.set_set]
theorem lc_grow {J : It} {n : Nat} {G : Hp → Prop} {Y : Nat → Hp → V → Hp → Prop} (w : Walk J n G Y) {g : TG} {te : TE} {vs : List Nat} {σ : L2.St} {H1 : Hp} {D : Addr} {Qd : Hp → Prop} (ys : List V) (hy : ys.length = n) (hn : n ≤ 100000)
    (hG : ∀ H', Same H1 H' → G H') (hD : H1 D = none)
    (he : ∀ k x H2 H' (R : VK), k < n → Same H1 H2 → Y k H2 x H' → (∀ y H4, ys[k]? = some y → Same H2 H4 → R y H4) → g x (wipe σ vs) H' fun σ2 H3 => wipe σ2 vs = wipe σ vs ∧ te σ2 H3 R)
    (hd : ∀ H', Same H1 H' → H' D = some (.lst ys) → Qd H') (gm : ∀ x H' Q Q', (∀ σ H, Q σ H → Q' σ H) → g x (wipe σ vs) H' Q → g x (wipe σ vs) H' Q') :
    ∃ W : Nat → Nat → Hp → Prop, (∃ m, W 0 m (upd H1 D (.lst []))) ∧ ∀ i m H, W i m H →
      (J.stop i H ∧ Qd H) ∨ (J.go i H ∧ ∃ Nx : Hp → Prop, (∀ H', Nx H' → ∃ m', m' < m ∧ W (i + 1) m' H') ∧ ∀ x H', J.yld i H x H' → g x (wipe σ vs) H' fun σ2 H2 => wipe σ2 vs = wipe σ vs ∧ tYes σ2 H2 fun b H3 =>
        if b = true then te σ2 H3 fun y H4 => ∃ acc, H4 D = some (.lst acc) ∧ acc.length < sizeLine ∧ Nx (upd H4 D (.lst (acc ++ [y]))) else Nx H3) := by
  refine lc_it w (fun k H' => Same H1 H' ∧ H' D = some (.lst (ys.take k))) ⟨Same.new hD, by rw [upd_same]; rfl⟩ (fun i H' _ h => hG H' h.1) ?_ ?_
  · rintro k x H2 H' hk ⟨s2, d2⟩ y
    refine gm _ _ _ _ (fun σ2 H3 q => ⟨q.1, by unfold tYes; exact iteT q.2⟩) (he k x H2 H' _ hk s2 y fun v H4 e s4 => ?_)
    have hk' : k < ys.length := by omega
    refine ⟨ys.take k, s4 _ _ d2, ?_, (s2.trans s4).snew hD, ?_⟩
    · rw [List.length_take]
      exact line_lt (by omega)
    · rw [upd_same, List.take_add_one, e]
      rfl
  · rintro H' ⟨s2, d2⟩
    refine hd H' s2 ?_
    rw [d2, List.take_of_length_le (by omega)]
/-- over the signs of a text, each element a function of the sign -/
theorem lc_signs {z : Str} {i : Nat} {te : TE} {σ : L2.St} {H1 : Hp} {D : Addr} {Qd : Hp → Prop} (f : Nat → V) (hn : z.length ≤ 100000) (hD : H1 D = none)
    (he : ∀ c H2 (R : VK), Same H1 H2 → (∀ H4, Same H2 H4 → R (f c) H4) → te ((wipe σ [i]).set i (some (.str ⟨#[c]⟩))) H2 R)
    (hd : ∀ H', Same H1 H' → H' D = some (.lst (z.cps.toList.map f)) → Qd H') :
    ∃ W : Nat → Nat → Hp → Prop, (∃ m, W 0 m (upd H1 D (.lst []))) ∧ ∀ k m H, W k m H →
      ((Its z).stop k H ∧ Qd H) ∨ ((Its z).go k H ∧ ∃ Nx : Hp → Prop, (∀ H', Nx H' → ∃ m', m' < m ∧ W (k + 1) m' H') ∧ ∀ x H', (Its z).yld k H x H' → gName i x (wipe σ [i]) H' fun σ2 H2 => wipe σ2 [i] = wipe σ [i] ∧ tYes σ2 H2 fun b H3 =>
        if b = true then te σ2 H3 fun y H4 => ∃ acc, H4 D = some (.lst acc) ∧ acc.length < sizeLine ∧ Nx (upd H4 D (.lst (acc ++ [y]))) else Nx H3) := by
  refine lc_grow walk_str (z.cps.toList.map f) (by simp) hn (fun _ _ => trivial) hD ?_ hd (fun _ _ _ _ q h => q _ _ h)
  rintro k x H2 H' R hk s2 ⟨rfl, c, hc, rfl⟩ hR
  refine ⟨wipe_set, he c H' R s2 fun H4 s4 => hR _ _ ?_ s4⟩
  rw [List.getElem?_map]
  have e : z.cps.toList[k]? = some c := by simpa using hc
  rw [e]
  rfl
theorem q_ifN {A B : Prop} {b : Bool} (h : if b = true then B else A) : if (!b) = true then A else B := by
  cases b <;> exact h
section
variable {K : PySem.W.Frag}
theorem kt_NoneType_int : PySem.W.kitOne K (.type "NoneType") (.type "int") = some false := kit_ty (by decide +kernel)
theorem kt_NoneType_str : PySem.W.kitOne K (.type "NoneType") (.type "str") = some false := kit_ty (by decide +kernel)
theorem kt_NoneType_bool : PySem.W.kitOne K (.type "NoneType") (.type "bool") = some false := kit_ty (by decide +kernel)
theorem kt_NoneType_list : PySem.W.kitOne K (.type "NoneType") (.type "list") = some false := kit_ty (by decide +kernel)
theorem kt_NoneType_tuple : PySem.W.kitOne K (.type "NoneType") (.type "tuple") = some false := kit_ty (by decide +kernel)
theorem kt_NoneType_dict : PySem.W.kitOne K (.type "NoneType") (.type "dict") = some false := kit_ty (by decide +kernel)
theorem kt_bool_int : PySem.W.kitOne K (.type "bool") (.type "int") = some true := kit_ty (by decide +kernel)
theorem kt_bool_str : PySem.W.kitOne K (.type "bool") (.type "str") = some false := kit_ty (by decide +kernel)
theorem kt_bool_bool : PySem.W.kitOne K (.type "bool") (.type "bool") = some true := kit_ty (by decide +kernel)
theorem kt_bool_list : PySem.W.kitOne K (.type "bool") (.type "list") = some false := kit_ty (by decide +kernel)
theorem kt_bool_tuple : PySem.W.kitOne K (.type "bool") (.type "tuple") = some false := kit_ty (by decide +kernel)
theorem kt_bool_dict : PySem.W.kitOne K (.type "bool") (.type "dict") = some false := kit_ty (by decide +kernel)
theorem kt_int_int : PySem.W.kitOne K (.type "int") (.type "int") = some true := kit_ty (by decide +kernel)
theorem kt_int_str : PySem.W.kitOne K (.type "int") (.type "str") = some false := kit_ty (by decide +kernel)
theorem kt_int_bool : PySem.W.kitOne K (.type "int") (.type "bool") = some false := kit_ty (by decide +kernel)
theorem kt_int_list : PySem.W.kitOne K (.type "int") (.type "list") = some false := kit_ty (by decide +kernel)
theorem kt_int_tuple : PySem.W.kitOne K (.type "int") (.type "tuple") = some false := kit_ty (by decide +kernel)
theorem kt_int_dict : PySem.W.kitOne K (.type "int") (.type "dict") = some false := kit_ty (by decide +kernel)
theorem kt_str_int : PySem.W.kitOne K (.type "str") (.type "int") = some false := kit_ty (by decide +kernel)
theorem kt_str_str : PySem.W.kitOne K (.type "str") (.type "str") = some true := kit_ty (by decide +kernel)
theorem kt_str_bool : PySem.W.kitOne K (.type "str") (.type "bool") = some false := kit_ty (by decide +kernel)
theorem kt_str_list : PySem.W.kitOne K (.type "str") (.type "list") = some false := kit_ty (by decide +kernel)
theorem kt_str_tuple : PySem.W.kitOne K (.type "str") (.type "tuple") = some false := kit_ty (by decide +kernel)
theorem kt_str_dict : PySem.W.kitOne K (.type "str") (.type "dict") = some false := kit_ty (by decide +kernel)
theorem kt_list_int : PySem.W.kitOne K (.type "list") (.type "int") = some false := kit_ty (by decide +kernel)
theorem kt_list_str : PySem.W.kitOne K (.type "list") (.type "str") = some false := kit_ty (by decide +kernel)
theorem kt_list_bool : PySem.W.kitOne K (.type "list") (.type "bool") = some false := kit_ty (by decide +kernel)
theorem kt_list_list : PySem.W.kitOne K (.type "list") (.type "list") = some true := kit_ty (by decide +kernel)
theorem kt_list_tuple : PySem.W.kitOne K (.type "list") (.type "tuple") = some false := kit_ty (by decide +kernel)
theorem kt_list_dict : PySem.W.kitOne K (.type "list") (.type "dict") = some false := kit_ty (by decide +kernel)
theorem kt_tuple_int : PySem.W.kitOne K (.type "tuple") (.type "int") = some false := kit_ty (by decide +kernel)
theorem kt_tuple_str : PySem.W.kitOne K (.type "tuple") (.type "str") = some false := kit_ty (by decide +kernel)
theorem kt_tuple_bool : PySem.W.kitOne K (.type "tuple") (.type "bool") = some false := kit_ty (by decide +kernel)
theorem kt_tuple_list : PySem.W.kitOne K (.type "tuple") (.type "list") = some false := kit_ty (by decide +kernel)
theorem kt_tuple_tuple : PySem.W.kitOne K (.type "tuple") (.type "tuple") = some true := kit_ty (by decide +kernel)
theorem kt_tuple_dict : PySem.W.kitOne K (.type "tuple") (.type "dict") = some false := kit_ty (by decide +kernel)
theorem kt_dict_int : PySem.W.kitOne K (.type "dict") (.type "int") = some false := kit_ty (by decide +kernel)
theorem kt_dict_str : PySem.W.kitOne K (.type "dict") (.type "str") = some false := kit_ty (by decide +kernel)
theorem kt_dict_bool : PySem.W.kitOne K (.type "dict") (.type "bool") = some false := kit_ty (by decide +kernel)
theorem kt_dict_list : PySem.W.kitOne K (.type "dict") (.type "list") = some false := kit_ty (by decide +kernel)
theorem kt_dict_tuple : PySem.W.kitOne K (.type "dict") (.type "tuple") = some false := kit_ty (by decide +kernel)
theorem kt_dict_dict : PySem.W.kitOne K (.type "dict") (.type "dict") = some true := kit_ty (by decide +kernel)
end
theorem R_of {α : Type} {R : α → Hp → Prop} {v v' : α} {H : Hp} (h : R v H) (e : v = v') : R v' H := e ▸ h
section
variable {K : PySem.W.Frag} {H : Hp} {Q : VK}
theorem q_leStr1 {i j : Str} {a b : Nat} (ha : i.cps.toList = [a]) (hb : j.cps.toList = [b]) (q : Q (.bl (decide (a ≤ b))) H) : rLeStr (.str i) (.str j) H Q := ⟨i, j, rfl, rfl, by
  rw [ha, hb]
  have e : (!decide ([b] < [a])) = decide (a ≤ b) := by
    by_cases h : a ≤ b
    · rw [decide_eq_true h, decide_eq_false]
      · rfl
      · intro z
        have := List.cons_lt_cons_iff.mp z
        simp at this
        omega
    · rw [decide_eq_false h, decide_eq_true]
      · rfl
      · exact List.cons_lt_cons_iff.mpr (.inl (by omega))
  rw [e]
  exact q⟩
theorem q_all {a : Addr} {bs : List Bool} (h : SqL K H a (bs.map V.bl)) (q : Q (.bl (bs.all id)) H) : rAll K [.ref a] H Q := ⟨a, bs, rfl, h, q⟩
theorem q_any {a : Addr} {bs : List Bool} (h : SqL K H a (bs.map V.bl)) (q : Q (.bl (bs.any id)) H) : rAny K [.ref a] H Q := ⟨a, bs, rfl, h, q⟩
end
theorem lc_signsB {z : Str} {i : Nat} {te : TE} {σ : L2.St} {H1 : Hp} {D : Addr} {Qd : Hp → Prop} (f : Nat → Bool) (hn : z.length ≤ 100000) (hD : H1 D = none)
    (he : ∀ c H2 (R : VK), Same H1 H2 → (∀ H4, Same H2 H4 → R (.bl (f c)) H4) → te ((wipe σ [i]).set i (some (.str ⟨#[c]⟩))) H2 R)
    (hd : ∀ H', Same H1 H' → H' D = some (.lst ((z.cps.toList.map f).map V.bl)) → Qd H') :
    ∃ W : Nat → Nat → Hp → Prop, (∃ m, W 0 m (upd H1 D (.lst []))) ∧ ∀ k m H, W k m H →
      ((Its z).stop k H ∧ Qd H) ∨ ((Its z).go k H ∧ ∃ Nx : Hp → Prop, (∀ H', Nx H' → ∃ m', m' < m ∧ W (k + 1) m' H') ∧ ∀ x H', (Its z).yld k H x H' → gName i x (wipe σ [i]) H' fun σ2 H2 => wipe σ2 [i] = wipe σ [i] ∧ tYes σ2 H2 fun b H3 =>
        if b = true then te σ2 H3 fun y H4 => ∃ acc, H4 D = some (.lst acc) ∧ acc.length < sizeLine ∧ Nx (upd H4 D (.lst (acc ++ [y]))) else Nx H3) :=
  lc_signs (fun c => .bl (f c)) hn hD he fun H' s e => hd H' s (by rw [e, List.map_map]; rfl)
theorem at_ints (xs : List Int) (P : Int → Prop) {i : Int} (hP : ∀ x ∈ xs, P x) (h0 : 0 ≤ i) (h1 : i < xs.length) : ∃ m, atI (xs.map V.int) i = some (V.int m) ∧ P m := by
  obtain ⟨j, rfl⟩ := Int.eq_ofNat_of_zero_le h0
  have hj : j < xs.length := by omega
  refine ⟨xs[j], atI_nat (by simp [hj]), hP _ (List.getElem_mem hj)⟩
theorem at_ex {α : Type} {xs : List α} {i : Int} (h0 : 0 ≤ i) (h1 : i < xs.length) : ∃ c, atI xs i = some c := by
  obtain ⟨j, rfl⟩ := Int.eq_ofNat_of_zero_le h0
  have hj : j < xs.length := by omega
  exact ⟨xs[j], atI_nat (by simp [hj])⟩
section
variable {K : PySem.W.Frag} {H : Hp} {Q : VK} {x y : V}
theorem q_eqD {d e : PyData} (hd : Dp K H x d) (he : Dp K H y e) (sd : SeqAt.shaped d = true) (se : SeqAt.shaped e = true) (q : Q (.bl (PyData.eqv d e)) H) : rEqD K x y H Q := ⟨d, e, hd, he, sd, se, q⟩
theorem q_neD {d e : PyData} (hd : Dp K H x d) (he : Dp K H y e) (sd : SeqAt.shaped d = true) (se : SeqAt.shaped e = true) (q : Q (.bl (!PyData.eqv d e)) H) : rNeD K x y H Q := ⟨d, e, hd, he, sd, se, q⟩
end
theorem cs_0 : (Str.ofString "0").cps.toList = [48] := by decide +kernel
theorem cs_9 : (Str.ofString "9").cps.toList = [57] := by decide +kernel
theorem cs_a : (Str.ofString "a").cps.toList = [97] := by decide +kernel
theorem cs_z : (Str.ofString "z").cps.toList = [122] := by decide +kernel
theorem str_one {c d : Nat} {s : Str} (h : s.cps.toList = [d]) : ((⟨#[c]⟩ : Str) = s) ↔ c = d := by
  constructor
  · intro e
    rw [← e] at h
    simpa using h
  · intro e
    subst e
    obtain ⟨l⟩ := s
    congr 1
    exact Array.ext' h.symm
theorem str_len (s : Str) : s.cps.toList.length = s.length := Array.length_toList
theorem in_az (c : Nat) : decide (c ∈ (Str.ofString "abcdefghijklmnopqrstuvwxyz").cps.toList) = (decide (97 ≤ c) && decide (c ≤ 122)) := by
  have e : (Str.ofString "abcdefghijklmnopqrstuvwxyz").cps.toList = List.range' 97 26 := by decide +kernel
  rw [e]
  by_cases h : c ∈ List.range' 97 26
  · rw [decide_eq_true h]
    have := List.mem_range'_1.mp h
    simp
    omega
  · rw [decide_eq_false h]
    have h' : ¬ (97 ≤ c ∧ c < 97 + 26) := fun z => h (List.mem_range'_1.mpr z)
    symm
    simp
    omega
theorem in_09 (c : Nat) : decide (c ∈ (Str.ofString "0123456789").cps.toList) = (decide (48 ≤ c) && decide (c ≤ 57)) := by
  have e : (Str.ofString "0123456789").cps.toList = List.range' 48 10 := by decide +kernel
  rw [e]
  by_cases h : c ∈ List.range' 48 10
  · rw [decide_eq_true h]
    have := List.mem_range'_1.mp h
    simp
    omega
  · rw [decide_eq_false h]
    have h' : ¬ (48 ≤ c ∧ c < 48 + 10) := fun z => h (List.mem_range'_1.mpr z)
    symm
    simp
    omega
theorem len_pos {s : Str} (h : ¬ s = Str.ofString "") : 0 < s.length := by
  rcases Nat.eq_zero_or_pos s.length with e | e
  · exact absurd (by
      obtain ⟨l⟩ := s
      have : l = #[] := Array.eq_empty_of_size_eq_zero e
      rw [this]; rfl) h
  · exact e
/-! ### the rules that read the written part, with it named (a comprehension's block has the same) -/
def rListOf (K : PySem.W.Frag) : List V → Hp → VK → Prop := fun xs H Q => ∃ p ys, xs = [.ref p] ∧ (SqL K H p ys ∨ SqT K H p ys) ∧ ∀ l, H l = none → Q (.ref l) (upd H l (.lst ys))
def rTupleOf (K : PySem.W.Frag) : List V → Hp → VK → Prop := fun xs H Q => ∃ p ys, xs = [.ref p] ∧ ((SqL K H p ys ∧ ∀ l, H l = none → Q (.ref l) (upd H l (.tup ys))) ∨ (SqT K H p ys ∧ Q (.ref p) H))
section
variable {X : Cx} {K : PySem.W.Frag}
theorem kx_isi (hK : X.K = K) : CallR X (.builtin "isinstance") (rIsi K) := by subst hK; exact call_isi
theorem kx_isiT (hK : X.K = K) : CallR X (.builtin "isinstance") (rIsiT K) := by subst hK; exact call_isiT
theorem kx_len (hK : X.K = K) : CallR X (.builtin "len") (rLenA K) := by subst hK; exact call_lenA
theorem kx_all (hK : X.K = K) (hc : X.calm = true) : CallR X (.builtin "all") (rAll K) := by subst hK; exact cr_all hc
theorem kx_any (hK : X.K = K) (hc : X.calm = true) : CallR X (.builtin "any") (rAny K) := by subst hK; exact cr_any hc
theorem kx_sum (hK : X.K = K) (hc : X.calm = true) : CallR X (.builtin "sum") (rSum K) := by subst hK; exact cr_sum hc
theorem kx_max (hK : X.K = K) (hc : X.calm = true) : CallR X (.builtin "max") (rMax K) := by subst hK; exact cr_max hc
theorem kx_min (hK : X.K = K) (hc : X.calm = true) : CallR X (.builtin "min") (rMin K) := by subst hK; exact cr_min hc
theorem kx_list (hK : X.K = K) : CallR X (.type "list") (rListOf K) := by subst hK; exact call_list_of
theorem kx_tuple (hK : X.K = K) : CallR X (.type "tuple") (rTupleOf K) := by subst hK; exact call_tuple_of
theorem ko_eqD (hK : X.K = K) (hu : X.A.units + 64 < cLine) : OpR X (compareOp .Eq) (rEqD K) := by subst hK; exact op_eqD hu
theorem ko_neD (hK : X.K = K) (hu : X.A.units + 64 < cLine) : OpR X (compareOp .NotEq) (rNeD K) := by subst hK; exact op_neD hu
theorem ko_in (hK : X.K = K) : OpR X (compareOp .In) (rIn K false) := by subst hK; exact op_in_seq
theorem ko_notIn (hK : X.K = K) : OpR X (compareOp .NotIn) (rIn K true) := by subst hK; exact op_notIn_seq
theorem ki_list (hK : X.K = K) : IxR X (rIxL K) := by subst hK; exact ix_list
theorem ki_tup (hK : X.K = K) : IxR X (rIxT K) := by subst hK; exact ix_tup
theorem ks_list (hK : X.K = K) : SlR X (rSlL K) := by subst hK; exact sl_list
theorem ks_tup (hK : X.K = K) : SlR X (rSlT K) := by subst hK; exact sl_tup
theorem kp_fld {e : Expr} {ta : TE} {f : Str} {pos : Pos} (hK : X.K = K) (he : PE X e ta) (hb : attributeBase e f X.env (eval e X.env) = eval e X.env) : PE X (.Attribute e f pos) (tFld K ta f) := by subst hK; exact pe_fld he hb
theorem kpi_list {tg e : Expr} {tl : TE} (hK : X.K = K) (he : PE X e tl) : PI X tg e (iList K tl) := by subst hK; exact pi_list he
theorem kpi_tup {tg e : Expr} {tl : TE} (hK : X.K = K) (he : PE X e tl) : PI X tg e (iTup K tl) := by subst hK; exact pi_tup he
end
section
variable {K : PySem.W.Frag} {H : Hp} {Q : VK} {p : Addr}
theorem q_listL {xs : List V} (h : SqL K H p xs) (q : ∀ l, H l = none → Q (.ref l) (upd H l (.lst xs))) : rListOf K [.ref p] H Q := ⟨p, xs, rfl, .inl h, q⟩
theorem q_listT {xs : List V} (h : SqT K H p xs) (q : ∀ l, H l = none → Q (.ref l) (upd H l (.lst xs))) : rListOf K [.ref p] H Q := ⟨p, xs, rfl, .inr h, q⟩
theorem q_tupleL {xs : List V} (h : SqL K H p xs) (q : ∀ l, H l = none → Q (.ref l) (upd H l (.tup xs))) : rTupleOf K [.ref p] H Q := ⟨p, xs, rfl, .inl ⟨h, q⟩⟩
theorem q_tupleT {xs : List V} (h : SqT K H p xs) (q : Q (.ref p) H) : rTupleOf K [.ref p] H Q := ⟨p, xs, rfl, .inr ⟨h, q⟩⟩
theorem q_sum {ns : List Int} (h : SqL K H p (ns.map V.int)) (q : Q (.int ns.sum) H) : rSum K [.ref p] H Q := ⟨p, ns, rfl, h, q⟩
end
section
variable {α : Type} {a b c d e : α} {xs : List α}
theorem at0 : atI (a :: xs) 0 = some a := atI_nat (j := 0) rfl
theorem at1 : atI (a :: b :: xs) 1 = some b := atI_nat (j := 1) rfl
theorem at2 : atI (a :: b :: c :: xs) 2 = some c := atI_nat (j := 2) rfl
theorem at3 : atI (a :: b :: c :: d :: xs) 3 = some d := atI_nat (j := 3) rfl
theorem at4 : atI (a :: b :: c :: d :: e :: xs) 4 = some e := atI_nat (j := 4) rfl
end
/-- forget how the heap came to be: what is known of it goes on -/
theorem abs_q {α : Type} {R : Hp → α → Prop} {H : Hp} {Q : α} (F : Hp → Prop) (h : F H) (k : ∀ H', F H' → R H' Q) : R H Q := k H h
theorem abs_s {R : Hp → Prop} {H : Hp} (F : Hp → Prop) (h : F H) (k : ∀ H', F H' → R H') : R H := k H h
section
variable {K : PySem.W.Frag} {H : Hp} {Q : VK} {x y : V}
theorem q_eqDt {d e : PyData} (hd : Dp K H x d) (he : Dp K H y e) (sd : SeqAt.shaped d = true) (se : SeqAt.shaped e = true) (h : PyData.eqv d e = true) (q : Q (.bl true) H) : rEqD K x y H Q := ⟨d, e, hd, he, sd, se, by rw [h]; exact q⟩
theorem q_neDt {d e : PyData} (hd : Dp K H x d) (he : Dp K H y e) (sd : SeqAt.shaped d = true) (se : SeqAt.shaped e = true) (h : PyData.eqv d e = true) (q : Q (.bl false) H) : rNeD K x y H Q := ⟨d, e, hd, he, sd, se, by rw [h]; exact q⟩
end
/-- over a list that stays, each element a function of the item -/
theorem lc_items {K : PySem.W.Frag} {a : Addr} {xs : List V} {i : Nat} {te : TE} {σ : L2.St} {H1 : Hp} {D : Addr} {Qd : Hp → Prop} (f : V → V) (hl : SqL K H1 a xs) (hn : xs.length ≤ 100000) (hD : H1 D = none)
    (he : ∀ x ∈ xs, ∀ H2 (R : VK), Same H1 H2 → (∀ H4, Same H2 H4 → R (f x) H4) → te ((wipe σ [i]).set i (some x)) H2 R)
    (hd : ∀ H', Same H1 H' → H' D = some (.lst (xs.map f)) → Qd H') :
    ∃ W : Nat → Nat → Hp → Prop, (∃ m, W 0 m (upd H1 D (.lst []))) ∧ ∀ k m H, W k m H →
      ((Itl K a).stop k H ∧ Qd H) ∨ ((Itl K a).go k H ∧ ∃ Nx : Hp → Prop, (∀ H', Nx H' → ∃ m', m' < m ∧ W (k + 1) m' H') ∧ ∀ x H', (Itl K a).yld k H x H' → gName i x (wipe σ [i]) H' fun σ2 H2 => wipe σ2 [i] = wipe σ [i] ∧ tYes σ2 H2 fun b H3 =>
        if b = true then te σ2 H3 fun y H4 => ∃ acc, H4 D = some (.lst acc) ∧ acc.length < sizeLine ∧ Nx (upd H4 D (.lst (acc ++ [y]))) else Nx H3) := by
  refine lc_grow walk_list (xs.map f) (by simp) hn (fun _ s => s.seq hl) hD ?_ hd (fun _ _ _ _ q h => q _ _ h)
  rintro k x H2 H' R hk s2 ⟨rfl, hx⟩ hR
  refine ⟨wipe_set, he x (List.mem_of_getElem? hx) H' R s2 fun H4 s4 => hR _ _ ?_ s4⟩
  rw [List.getElem?_map, hx]
  rfl
theorem lc_itemsB {K : PySem.W.Frag} {a : Addr} {xs : List V} {i : Nat} {te : TE} {σ : L2.St} {H1 : Hp} {D : Addr} {Qd : Hp → Prop} (f : V → Bool) (hl : SqL K H1 a xs) (hn : xs.length ≤ 100000) (hD : H1 D = none)
    (he : ∀ x ∈ xs, ∀ H2 (R : VK), Same H1 H2 → (∀ H4, Same H2 H4 → R (.bl (f x)) H4) → te ((wipe σ [i]).set i (some x)) H2 R)
    (hd : ∀ H', Same H1 H' → H' D = some (.lst ((xs.map f).map V.bl)) → Qd H') :
    ∃ W : Nat → Nat → Hp → Prop, (∃ m, W 0 m (upd H1 D (.lst []))) ∧ ∀ k m H, W k m H →
      ((Itl K a).stop k H ∧ Qd H) ∨ ((Itl K a).go k H ∧ ∃ Nx : Hp → Prop, (∀ H', Nx H' → ∃ m', m' < m ∧ W (k + 1) m' H') ∧ ∀ x H', (Itl K a).yld k H x H' → gName i x (wipe σ [i]) H' fun σ2 H2 => wipe σ2 [i] = wipe σ [i] ∧ tYes σ2 H2 fun b H3 =>
        if b = true then te σ2 H3 fun y H4 => ∃ acc, H4 D = some (.lst acc) ∧ acc.length < sizeLine ∧ Nx (upd H4 D (.lst (acc ++ [y]))) else Nx H3) :=
  lc_items (fun x => .bl (f x)) hl hn hD he fun H' s e => hd H' s (by rw [e, List.map_map]; rfl)
section
variable {H : Hp} {Q : VK} {a b : Bool} {A B : Prop}
theorem q_isT (q : Q (.bl a) H) : rIsB (.bl a) (.bl true) H Q := ⟨a, true, rfl, rfl, by have e : decide (a = true) = a := by cases a <;> rfl
                                                                                        rw [e]; exact q⟩
theorem q_isF (q : Q (.bl (!a)) H) : rIsB (.bl a) (.bl false) H Q := ⟨a, false, rfl, rfl, by have e : decide (a = false) = !a := by cases a <;> rfl
                                                                                             rw [e]; exact q⟩
theorem q_notT (q : Q (.bl (!a)) H) : rNotB (.bl a) (.bl true) H Q := ⟨a, true, rfl, rfl, by have e : (!decide (a = true)) = !a := by cases a <;> rfl
                                                                                             rw [e]; exact q⟩
theorem q_notF (q : Q (.bl a) H) : rNotB (.bl a) (.bl false) H Q := ⟨a, false, rfl, rfl, by have e : (!decide (a = false)) = a := by cases a <;> rfl
                                                                                            rw [e]; exact q⟩
theorem q_ifA (h : if a = true then (if b = true then A else B) else B) : if (a && b) = true then A else B := by
  cases a <;> cases b <;> exact h
theorem q_ifO (h : if a = true then A else (if b = true then A else B)) : if (a || b) = true then A else B := by
  cases a <;> cases b <;> exact h
end
/-- all but the object at p stands as it stood -/
def Fr1 (p : Addr) (H H' : Hp) : Prop := ∀ b o, b ≠ p → H b = some o → H' b = some o
theorem fr1_at {p b : Addr} {H H' : Hp} {o : HO} (f : Fr1 p H H') (n : b ≠ p) (h : H b = some o) : H' b = some o := f b o n h
theorem same_at {b : Addr} {H H' : Hp} {o : HO} (s : Same H H') (h : H b = some o) : H' b = some o := s b o h
section
variable {K : PySem.W.Frag} {σ : L2.St} {H H' : Hp} {Q : VK} {x : V} {t : Value} {p : Addr}
theorem q_dnewK (h : ∀ p, H p = none → Q (.ref p) (upd H p (.dK []))) : tDNewK σ H Q := h
theorem q_disp {trs : List (TE × TE)} (h : ∀ p, H p = none → tPairs trs σ (upd H p (.dK [])) fun ps H2 => H2 p = some (.dK []) ∧ ∃ kvs : List (Key × V), ps = kvs.map (fun kv => (kV kv.1, kv.2)) ∧ kvs.length ≤ 15 ∧ Q (.ref p) (upd H2 p (.dK (mergeK [] kvs)))) : tDisp trs σ H Q := h
theorem q_pairs0 {Q : List (V × V) → Hp → Prop} (h : Q [] H) : tPairs [] σ H Q := h
theorem q_pairs {tk tv : TE} {r : List (TE × TE)} {Q : List (V × V) → Hp → Prop} (h : tk σ H fun x H1 => tv σ H1 fun y H2 => tPairs r σ H2 fun ps H3 => Q ((x, y) :: ps) H3) : tPairs ((tk, tv) :: r) σ H Q := h
theorem q_kvs {ps : List (V × V)} {P : List (Key × V) → Prop} (kvs : List (Key × V)) (h : H p = some (.dK [])) (e : ps = kvs.map fun kv => (kV kv.1, kv.2)) (hl : kvs.length ≤ 15) (q : P kvs) : H p = some (.dK []) ∧ ∃ kvs : List (Key × V), ps = kvs.map (fun kv => (kV kv.1, kv.2)) ∧ kvs.length ≤ 15 ∧ P kvs := ⟨h, kvs, e, hl, q⟩
theorem q_isiT {tp : Addr} {cs : List V} {us : List Value} {b : Bool} (h : H tp = some (.tup cs)) (hp : Paired ClsV cs us) (ht : TyX K H x t) (hk : PySem.W.kitAny K t us = some b) (q : Q (.bl b) H) : rIsiT K [x, .ref tp] H Q := ⟨x, tp, cs, t, us, b, rfl, h, hp, ht, hk, q⟩
theorem _root_.L2.TyX.mono (h : TyX K H x t) (s : Same H H') : TyX K H' x t := by
  cases h with
  | base h =>
    refine .base ?_
    cases h with
    | non => exact .non
    | bl y => exact .bl y
    | int i => exact .int i
    | str y => exact .str y
    | flt y => exact .flt y
    | lst e => exact .lst (s _ _ e)
    | frz e => exact .frz (s _ _ e)
    | tup e => exact .tup (s _ _ e)
    | dK e => exact .dK (s _ _ e)
    | dT e => exact .dT (s _ _ e)
    | ins e cl ha hn htk hm => exact .ins (s _ _ e) cl ha hn htk hm
  | byt y => exact .byt y
  | set e => exact .set (s _ _ e)
  | kList e c => exact .kList e c
  | kTuple e c => exact .kTuple e c
  | kDict e c => exact .kDict e c
  | fTuple e => exact .fTuple (s _ _ e)
  | fDict e => exact .fDict (s _ _ e)
end
section
variable {K : PySem.W.Frag} {t c : Value} {r : List Value} {b : Bool}
theorem ka_nil : PySem.W.kitAny K t [] = some false := rfl
theorem ka_t (h : PySem.W.kitOne K t c = some true) : PySem.W.kitAny K t (c :: r) = some true := by
  unfold PySem.W.kitAny
  rw [h]
theorem ka_f (h : PySem.W.kitOne K t c = some false) (h2 : PySem.W.kitAny K t r = some b) : PySem.W.kitAny K t (c :: r) = some b := by
  unfold PySem.W.kitAny
  rw [h]
  exact h2
end
theorem upd_free {H : Hp} {a b : Addr} {o : HO} (e : upd H a o b = none) : H b = none := by
  unfold upd at e
  split at e
  · cases e
  · exact e
section
variable {K : PySem.W.Frag} {σ : L2.St} {H : Hp} {Q : VK} {D : Ends} {ta tv : TE} {f g : Str} {a C dx : Addr} {fs : List (Str × V)} {v y : V}
theorem q_sfld (h : tv σ H fun y H1 => ta σ H1 fun x H2 => ∃ a C dx fs, x = .ref a ∧ H2 a = some (.ins C dx fs) ∧ Cls K C ∧ NoAttr K C f ∧ fs.length < 1000 ∧ D.nx σ (upd H2 a (.ins C dx (putF f y fs)))) : sFld K ta tv f D σ H := h
theorem q_sfldb {P : Addr → Addr → Addr → List (Str × V) → Prop} (h1 : H a = some (.ins C dx fs)) (hc : Cls K C) (hn : NoAttr K C f) (hl : fs.length < 1000) (h : P a C dx fs) : ∃ b C dx fs, V.ref a = .ref b ∧ H b = some (.ins C dx fs) ∧ Cls K C ∧ NoAttr K C f ∧ fs.length < 1000 ∧ P b C dx fs := ⟨a, C, dx, fs, rfl, h1, hc, hn, hl, h⟩
theorem q_fldb (h1 : H a = some (.ins C dx fs)) (hc : Cls K C) (hn : NoAttr K C f) (hl : fs.lookup f = some v) (h : Q v H) : ∃ b C dx fs v, V.ref a = .ref b ∧ H b = some (.ins C dx fs) ∧ Cls K C ∧ NoAttr K C f ∧ fs.lookup f = some v ∧ Q v H := ⟨a, C, dx, fs, v, rfl, h1, hc, hn, hl, h⟩
theorem lu_hd : List.lookup f ((f, v) :: fs) = some v := by simp [List.lookup]
theorem lu_tl (h : ¬ f = g) : List.lookup f ((g, y) :: fs) = List.lookup f fs := by
  have e : (f == g) = false := by simpa using h
  simp [List.lookup, e]
end
/-- items that are ints from 0 on -/
def NN (xs : List V) : Prop := ∀ x ∈ xs, ∃ n : Int, x = .int n ∧ 0 ≤ n
theorem NN.nil : NN [] := fun _ h => by cases h
theorem NN.cons {n : Int} {xs : List V} (h : 0 ≤ n) (t : NN xs) : NN (.int n :: xs) := fun x hx => by
  rcases List.mem_cons.mp hx with rfl | hx
  · exact ⟨n, rfl, h⟩
  · exact t x hx
theorem NN.of {ns : List Int} (h : ∀ n ∈ ns, 0 ≤ n) : NN (ns.map V.int) := fun x hx => by
  obtain ⟨n, hm, rfl⟩ := List.mem_map.mp hx
  exact ⟨n, rfl, h n hm⟩
theorem set_self {σ : L2.St} {i : Nat} {v : Option V} (h : σ[i]? = some v) : σ.set i v = σ := by
  obtain ⟨hi, e⟩ := List.getElem?_eq_some_iff.mp h
  rw [← e]
  exact List.set_getElem_self hi
/-- a loop over a list whose turns store nothing but its name, and let the heap grow -/
theorem for_grow {K : PySem.W.Frag} {a : Addr} {xs : List V} {i : Nat} {tb : TS} {D : Ends} {σ : L2.St} {H : Hp} {v0 : Option V} (hl : SqL K H a xs) (hi : σ[i]? = some v0)
    (hb : ∀ x ∈ xs, ∀ H2, Same H H2 → ∀ N : L2.St → Hp → Prop, (∀ H3, Same H2 H3 → N (σ.set i (some x)) H3) → tb { D with nx := N, ct := N, bk := D.nx } (σ.set i (some x)) H2)
    (hd : ∀ v H', Same H H' → D.nx (σ.set i v) H') :
    ∃ W : Nat → Nat → L2.St → Hp → Prop, (∃ m, W 0 m σ H) ∧ ∀ k m σ H, W k m σ H →
      ((Itl K a).stop k H ∧ D.nx σ H) ∨ ((Itl K a).go k H ∧ ∃ N : L2.St → Hp → Prop, (∀ σ' H', N σ' H' → ∃ m', m' < m ∧ W (k + 1) m' σ' H') ∧ ∀ x H', (Itl K a).yld k H x H' → gName i x σ H' fun σ2 H2 => tb { D with nx := N, ct := N, bk := D.nx } σ2 H2) := by
  refine for_list (K := K) (a := a) (xs := xs) (fun k σ' H' => (∃ v, σ' = σ.set i v) ∧ Same H H') ⟨⟨v0, (set_self hi).symm⟩, Same.refl H⟩ (fun k σ' H' _ h => h.2.seq hl) ?_ ?_
  · rintro k x σ' H' hx ⟨⟨v, rfl⟩, s⟩
    show tb _ ((σ.set i v).set i (some x)) H'
    rw [List.set_set]
    exact hb x (List.mem_of_getElem? hx) H' s _ fun H3 s3 => ⟨⟨some x, rfl⟩, s.trans s3⟩
  · rintro σ' H' ⟨⟨v, rfl⟩, s⟩
    exact hd v H' s
theorem q_nn {P : Prop} (h : P) : V.non = V.non ∧ P := ⟨rfl, h⟩
theorem _root_.L2.Same.fr1 {H H1 H2 : Hp} {p : Addr} (s : Same H H1) (f : Fr1 p H1 H2) (h : H p = none) : Same H H2 := fun b o e => f b o (ne_of_none e h) (s b o e)
theorem cutV_mem {xs : List V} {lo hi : Option Int} {x : V} (h : x ∈ cutV xs lo hi) : x ∈ xs := List.mem_of_mem_drop (List.mem_of_mem_take h)
theorem Fr1.refl {p : Addr} {H : Hp} : Fr1 p H H := fun _ _ _ e => e
theorem Fr1.upd {p : Addr} {H H' : Hp} {o : HO} (f : Fr1 p H H') : Fr1 p H (upd H' p o) := fun b u n e => by
  rw [upd_ne n]
  exact f b u n e
theorem kit_sub {K : PySem.W.Frag} {C : Addr} {T : String} {b : Bool} (h0 : PySem.W.kitMeta T = true) (h : PySem.W.subIn K (.ref C) (.type T) = some b) : PySem.W.kitOne K (.ref C) (.type T) = some b := by
  have e : (Value.ref C == Value.type T) = false := rfl
  unfold PySem.W.kitOne
  rw [e, if_neg (by decide)]
  show (if PySem.W.kitMeta T = true then _ else _) = _
  rw [if_pos h0]
  exact h
/-- the same, with a word about the heap that the turns keep, in place of the heap itself -/
theorem for_growF {K : PySem.W.Frag} {a : Addr} {xs : List V} {i : Nat} {tb : TS} {D : Ends} {σ : L2.St} {H : Hp} {v0 : Option V} (F : Hp → Prop) (hF : F H) (hl : ∀ H1, F H1 → SqL K H1 a xs) (hi : σ[i]? = some v0)
    (hb : ∀ x ∈ xs, ∀ H2, F H2 → ∀ N : L2.St → Hp → Prop, (∀ H3, F H3 → N (σ.set i (some x)) H3) → tb { D with nx := N, ct := N, bk := D.nx } (σ.set i (some x)) H2)
    (hd : ∀ v H', F H' → D.nx (σ.set i v) H') :
    ∃ W : Nat → Nat → L2.St → Hp → Prop, (∃ m, W 0 m σ H) ∧ ∀ k m σ H, W k m σ H →
      ((Itl K a).stop k H ∧ D.nx σ H) ∨ ((Itl K a).go k H ∧ ∃ N : L2.St → Hp → Prop, (∀ σ' H', N σ' H' → ∃ m', m' < m ∧ W (k + 1) m' σ' H') ∧ ∀ x H', (Itl K a).yld k H x H' → gName i x σ H' fun σ2 H2 => tb { D with nx := N, ct := N, bk := D.nx } σ2 H2) := by
  refine for_list (K := K) (a := a) (xs := xs) (fun k σ' H' => (∃ v, σ' = σ.set i v) ∧ F H') ⟨⟨v0, (set_self hi).symm⟩, hF⟩ (fun k σ' H' _ h => hl H' h.2) ?_ ?_
  · rintro k x σ' H' hx ⟨⟨v, rfl⟩, s⟩
    show tb _ ((σ.set i v).set i (some x)) H'
    rw [List.set_set]
    exact hb x (List.mem_of_getElem? hx) H' s _ fun H3 s3 => ⟨⟨some x, rfl⟩, s3⟩
  · rintro σ' H' ⟨⟨v, rfl⟩, s⟩
    exact hd v H' s
theorem at_strs (xs : List Str) (P : Str → Prop) {i : Int} (hP : ∀ x ∈ xs, P x) (h0 : 0 ≤ i) (h1 : i < xs.length) : ∃ m, atI (xs.map V.str) i = some (V.str m) ∧ P m := by
  obtain ⟨j, rfl⟩ := Int.eq_ofNat_of_zero_le h0
  have hj : j < xs.length := by omega
  refine ⟨xs[j], atI_nat (by simp [hj]), hP _ (List.getElem_mem hj)⟩

local macro_rules | `(tactic| walk_at "at") => `(tactic| first | assumption | with_reducible exact at0 | with_reducible exact at1 | with_reducible exact at2 | with_reducible exact at3 | with_reducible exact at4)
/-! ### steps: side conditions (sd), what stands at an address (lk, sq), a reading's next steps (rd) -/
local macro_rules | `(tactic| walk_at "ne") => `(tactic| first | assumption | (apply Ne.symm; assumption) | (refine' ne_of_none ?h1 ?h2; (case h1 => assumption); (case h2 => walk_at "fr")) | (refine' ne_of_none upd_same ?h2; (case h2 => walk_at "fr")) | (apply Ne.symm; refine' ne_of_none ?h1 ?h2; (case h1 => assumption); (case h2 => walk_at "fr")) | (apply Ne.symm; refine' ne_of_none upd_same ?h2; (case h2 => walk_at "fr")) | (refine' ne_of_none ?h1 ?h2; (case h2 => assumption); (case h1 => walk_at "lk")) | (apply Ne.symm; refine' ne_of_none ?h1 ?h2; (case h2 => assumption); (case h1 => walk_at "lk")))
local macro_rules | `(tactic| walk_at "lk") => `(tactic| first | assumption | exact upd_same | (refine' Eq.trans (upd_ne ?h1) ?h2; (case h1 => walk_at "ne"); (case h2 => walk_at "lk")) | (refine' same_at ?h1 ?h2; (case h1 => assumption); (case h2 => walk_at "lk")) | (refine' fr1_at ?h1 ?h2 ?h3; (case h1 => assumption); (case h2 => walk_at "ne"); (case h3 => walk_at "lk")))
local macro_rules | `(tactic| walk_at "sq") => `(tactic| first | assumption | exact SqL.of (by walk_at "lk") | exact SqT.of (by walk_at "lk") | (refine Same.seq (by assumption) ?_; walk_at "sq") | (refine Same.seqT (by assumption) ?_; walk_at "sq"))
local macro_rules | `(tactic| walk_at "sd") => `(tactic| first | omega | (dsimp only; omega) | (simp only [PySem.Str.length_append]; omega) | with_reducible assumption | assumption | (simp; done) | (simp; omega) | decide | rfl)
local macro_rules | `(tactic| walk_at "sdI") => `(tactic| first | (show (0:Int) < _; walk_at "sd") | exact wide_div (b := 8000) (by walk_at "sd") (by walk_at "sd") (by decide) (by decide) | exact Or.inr ⟨by walk_at "sd", by walk_at "sd"⟩ | exact Or.inl ⟨by walk_at "sd", by walk_at "sd"⟩ | exact ⟨by walk_at "sd", by walk_at "sd", by walk_at "sd"⟩ | walk_at "sd")
local macro_rules | `(tactic| walk_at "rd0") => `(tactic| first
  | with_reducible refine q_seq ?_ | with_reducible refine q_asg ?_ | with_reducible refine q_op ?_ | ((with_reducible refine' q_var ?h1 ?_); (case h1 => exact rfl)) | with_reducible refine q_c ?_
  | with_reducible refine q_gname ?_ | with_reducible refine q_test ?_ | with_reducible refine q_k ?_ | with_reducible refine q_cons ?_ | with_reducible refine q_nil ?_ | with_reducible refine q_cb ?_ | with_reducible refine q_call0 ?_ | ((with_reducible refine q_call ?_))
  | with_reducible refine q_if ?_ | with_reducible refine q_ret ?_ | with_reducible refine q_retN ?_ | with_reducible refine q_drop ?_ | with_reducible refine q_next ?_ | with_reducible refine q_brk ?_ | with_reducible refine q_cont ?_
  | with_reducible refine q_ifN ?_ | with_reducible refine q_ifA ?_ | with_reducible refine q_ifO ?_ | with_reducible refine q_ift ?_ | with_reducible refine q_iff ?_
  | with_reducible refine q_un ?_ | with_reducible refine q_B ?_ | with_reducible refine q_and ?_ | with_reducible refine q_or ?_ | with_reducible refine q_not ?_ | with_reducible refine q_andV ?_ | with_reducible refine q_orV ?_ | with_reducible refine q_notV ?_ | with_reducible refine q_ifE ?_ | with_reducible refine q_chain ?_
  | with_reducible refine q_gsub ?_ | with_reducible refine q_gnil ?_ | with_reducible refine q_gcons ?_ | with_reducible refine q_fld ?_ | with_reducible refine q_sl ?_ | with_reducible refine q_nopart ?_ | with_reducible refine q_part ?_ | with_reducible refine q_i ?_ | with_reducible refine q_bm ?_
  | with_reducible refine q_lst ?_ | with_reducible refine q_tup ?_ | ((with_reducible refine q_new ?h1 ?_); (case h1 => walk_at "sd"))
  | with_reducible refine q_I0 ?_ | ((with_reducible refine q_I ?h1 ?_); (case h1 => walk_at "sdI")) | with_reducible refine q_U ?_
  | with_reducible refine q_eqI ?_ | with_reducible refine q_eqS ?_ | with_reducible refine q_eqB ?_ | ((with_reducible refine q_eq0 ?h1 ?h2 ?_); (case h1 => rfl); (case h2 => (intro z; cases z)))
  | with_reducible refine q_neI ?_ | with_reducible refine q_neS ?_ | with_reducible refine q_neB ?_ | ((with_reducible refine q_ne0 ?h1 ?h2 ?_); (case h1 => rfl); (case h2 => (intro z; cases z)))
  | with_reducible refine q_isT ?_ | with_reducible refine q_isF ?_ | with_reducible refine q_notT ?_ | with_reducible refine q_notF ?_ | with_reducible refine q_isB ?_ | with_reducible refine q_notB ?_ | with_reducible refine q_isNonT ?_ | ((with_reducible refine q_isNonF ?h1 ?_); (case h1 => (intro z; cases z))) | with_reducible refine q_notNonF ?_ | ((with_reducible refine q_notNonT ?h1 ?_); (case h1 => (intro z; cases z)))
  | ((with_reducible refine' q_ixL ?h1 ?h2 ?_); (case h1 => walk_at "sq"); (case h2 => walk_at "at"))
  | ((with_reducible refine' q_ixT ?h1 ?h2 ?_); (case h1 => walk_at "sq"); (case h2 => walk_at "at"))
  | ((with_reducible refine' q_ixS ?h1 ?h2 ?_); (case h1 => walk_at "sd"); (case h2 => walk_at "at"))
  | ((with_reducible refine' q_setL ?h1 ?h2 ?_); (case h1 => walk_at "lk"); (case h2 => rfl))
  | ((with_reducible refine' q_append ?h1 ?h2 ?_); (case h1 => walk_at "lk"); (case h2 => (refine line_lt ?_; walk_at "sd")))
  | ((with_reducible refine' q_tyL ?h1 ?_); (case h1 => walk_at "lk"))
  | ((with_reducible refine' q_slL ?h1 ?_); (case h1 => walk_at "sq"))
  | ((with_reducible refine' q_cat ?h1 ?h2 ?h3 ?_); (case h1 => walk_at "lk"); (case h2 => walk_at "lk"); (case h3 => (refine line_of ?_; walk_at "sd")))
  | ((with_reducible refine q_addStr ?h1 ?_); (case h1 => (refine line_of ?_; walk_at "sd"))) | with_reducible refine q_ltStr ?_ | ((with_reducible refine' q_leStr1 ?h1 ?h2 ?_); (case h1 => (first | assumption | exact rfl)); (case h2 => (first | assumption | exact rfl))) | with_reducible refine q_leStr ?_ | ((with_reducible refine' q_all ?h1 ?_); (case h1 => walk_at "sq")) | ((with_reducible refine' q_any ?h1 ?_); (case h1 => walk_at "sq")) | with_reducible refine q_inSign ?_
  | ((with_reducible refine q_lenS ?h1 ?_); (case h1 => (refine line_of ?_; walk_at "sd"))) | ((with_reducible refine' q_lenL ?h1 ?_); (case h1 => walk_at "sq")) | ((with_reducible refine' q_lenT ?h1 ?_); (case h1 => walk_at "sq"))
  | ((with_reducible refine q_slS ?h1 ?_); (case h1 => (refine line_of ?_; walk_at "sd"))) | with_reducible refine q_callN ?_ | with_reducible refine q_2 rfl rfl ?_ | with_reducible refine q_make0 ?_ | with_reducible refine q_meth0 ?_
  | with_reducible refine q_for ?_ | with_reducible refine q_lc ?_ | with_reducible refine q_rng1 ?_ | ((with_reducible refine q_rng1b ?h1 ?h2 ?_); (case h1 => walk_at "sd"); (case h2 => walk_at "sd")) | with_reducible refine q_iList ?_ | ((with_reducible refine' q_iListb ?h1 ?_); (case h1 => walk_at "sq")) | with_reducible refine q_iStr ?_ | with_reducible refine q_iStrb ?_
  | ((with_reducible refine' q_listL ?h1 ?_); (case h1 => walk_at "sq")) | ((with_reducible refine' q_listT ?h1 ?_); (case h1 => walk_at "sq")) | ((with_reducible refine' q_tupleL ?h1 ?_); (case h1 => walk_at "sq")) | ((with_reducible refine' q_tupleT ?h1 ?_); (case h1 => walk_at "sq")) | ((with_reducible refine' q_sum ?h1 ?_); (case h1 => walk_at "sq"))
  | ((with_reducible refine' q_eqDt ?h1 ?h2 ?h3 ?h4 ?h5 ?_); (case h1 => walk_at "dp"); (case h2 => walk_at "dp"); (case h3 => exact rfl); (case h4 => exact rfl); (case h5 => walk_at "eqv"))
  | with_reducible refine q_dnewK ?_ | with_reducible refine q_disp ?_ | with_reducible refine q_pairs0 ?_ | with_reducible refine q_pairs ?_
  | ((with_reducible refine' q_isiT ?h1 ?h2 ?h3 ?h4 ?_); (case h1 => walk_at "lk"); (case h2 => walk_at "prd"); (case h3 => walk_at "tyx"); (case h4 => walk_at "kia"))
  | with_reducible refine q_sfld ?_ | ((with_reducible refine' q_sfldb ?h1 ?h2 ?h3 ?h4 ?_); (case h1 => walk_at "lk"); (case h2 => walk_at "cls"); (case h3 => walk_at "noa"); (case h4 => walk_at "sd")) | ((with_reducible refine' q_fldb ?h1 ?h2 ?h3 ?h4 ?_); (case h1 => walk_at "lk"); (case h2 => walk_at "cls"); (case h3 => walk_at "noa"); (case h4 => walk_at "lu"))
  | with_reducible refine q_nn ?_
  | with_reducible refine q_max2 ?_ | with_reducible refine q_min2 ?_
  | ((with_reducible refine' q_isi ?h1 ?h2 ?h3 ?_); (case h1 => (first | exact ClsV.ty _ | exact ClsV.own _)); (case h2 => walk_at "tyx"); (case h3 => walk_at "kit")))
local macro_rules | `(tactic| walk_at "tyx") => `(tactic| first | assumption | exact .base (.int _) | exact .base (.str _) | exact .base (.bl _) | exact .base .non | exact .base (.lst (by assumption)) | exact .base (.tup (by assumption)) | exact .base (.dK (by assumption)) | walk_at "tya" | walk_at "tyo" | exact .base (.lst (by walk_at "lk")) | exact .base (.tup (by walk_at "lk")) | exact .base (.dK (by walk_at "lk")) | (refine' TyX.mono ?h1 ?h2; (case h1 => assumption); (case h2 => walk_at "sm")))
local macro_rules | `(tactic| walk_at "kit") => `(tactic| first | assumption | walk_at "kio" | with_reducible exact kt_NoneType_int | with_reducible exact kt_NoneType_str | with_reducible exact kt_NoneType_bool | with_reducible exact kt_NoneType_list | with_reducible exact kt_NoneType_tuple | with_reducible exact kt_NoneType_dict | with_reducible exact kt_bool_int | with_reducible exact kt_bool_str | with_reducible exact kt_bool_bool | with_reducible exact kt_bool_list | with_reducible exact kt_bool_tuple | with_reducible exact kt_bool_dict | with_reducible exact kt_int_int | with_reducible exact kt_int_str | with_reducible exact kt_int_bool | with_reducible exact kt_int_list | with_reducible exact kt_int_tuple | with_reducible exact kt_int_dict | with_reducible exact kt_str_int | with_reducible exact kt_str_str | with_reducible exact kt_str_bool | with_reducible exact kt_str_list | with_reducible exact kt_str_tuple | with_reducible exact kt_str_dict | with_reducible exact kt_list_int | with_reducible exact kt_list_str | with_reducible exact kt_list_bool | with_reducible exact kt_list_list | with_reducible exact kt_list_tuple | with_reducible exact kt_list_dict | with_reducible exact kt_tuple_int | with_reducible exact kt_tuple_str | with_reducible exact kt_tuple_bool | with_reducible exact kt_tuple_list | with_reducible exact kt_tuple_tuple | with_reducible exact kt_tuple_dict | with_reducible exact kt_dict_int | with_reducible exact kt_dict_str | with_reducible exact kt_dict_bool | with_reducible exact kt_dict_list | with_reducible exact kt_dict_tuple | with_reducible exact kt_dict_dict)
local macro_rules | `(tactic| walk_at "rd") => `(tactic| repeat (first | walk_at "rd0" | walk_at "rc" | ((with_reducible refine q_ifd ?h1 ?_); (case h1 => (first | assumption | decide | omega))) | ((with_reducible refine q_ifn ?h1 ?_); (case h1 => (first | assumption | decide | omega))) | intro _))
local macro_rules | `(tactic| walk_at "sp") => `(tactic| first | with_reducible refine q_ifx (fun _ => ?_) (fun _ => ?_) | with_reducible refine q_ifs (fun _ => ?_) (fun _ => ?_))
local macro_rules | `(tactic| walk_at "rdx") => `(tactic| (walk_at "rd"; (try (walk_at "sp" <;> walk_at "rdx"))))
local macro_rules | `(tactic| walk_at "sv") => `(tactic| first | rfl | (simp_all; done) | (simp_all; omega) | (simp_all <;> intros <;> omega) | (simp; omega))
local macro_rules | `(tactic| walk_at "dp") => `(tactic| first | assumption | exact Dp.int _ | exact Dp.bl _ | exact Dp.str _ | exact Dp.non | exact Dp.lst (by walk_at "sq") (by walk_at "dps") | exact Dp.tup (by walk_at "sq") (by walk_at "dps"))
local macro_rules | `(tactic| walk_at "dps") => `(tactic| first | assumption | exact DpAll.nil | exact DpAll.cons (by walk_at "dp") (by walk_at "dps"))
local macro_rules | `(tactic| walk_at "rf") => `(tactic| first | assumption | exact cs_0 | exact cs_9 | exact cs_a | exact cs_z | exact rfl)
local macro_rules | `(tactic| walk_at "fr") => `(tactic| first | assumption | exact upd_free (by assumption) | exact upd_free (upd_free (by assumption)) | exact upd_free (upd_free (upd_free (by assumption))) | exact upd_free (upd_free (upd_free (upd_free (by assumption)))) | exact upd_free (upd_free (upd_free (upd_free (upd_free (by assumption))))) | exact upd_free (upd_free (upd_free (upd_free (upd_free (upd_free (by assumption)))))) | exact upd_free (upd_free (upd_free (upd_free (upd_free (upd_free (upd_free (by assumption))))))) | exact upd_free (upd_free (upd_free (upd_free (upd_free (upd_free (upd_free (upd_free (by assumption)))))))) | exact upd_free (upd_free (upd_free (upd_free (upd_free (upd_free (upd_free (upd_free (upd_free (by assumption))))))))) | exact upd_free (upd_free (upd_free (upd_free (upd_free (upd_free (upd_free (upd_free (upd_free (upd_free (by assumption)))))))))) | exact upd_free (upd_free (upd_free (upd_free (upd_free (upd_free (upd_free (upd_free (upd_free (upd_free (upd_free (by assumption))))))))))) | exact upd_free (upd_free (upd_free (upd_free (upd_free (upd_free (upd_free (upd_free (upd_free (upd_free (upd_free (upd_free (by assumption)))))))))))) | exact upd_free (upd_free (upd_free (upd_free (upd_free (upd_free (upd_free (upd_free (upd_free (upd_free (upd_free (upd_free (upd_free (by assumption))))))))))))) | exact upd_free (upd_free (upd_free (upd_free (upd_free (upd_free (upd_free (upd_free (upd_free (upd_free (upd_free (upd_free (upd_free (upd_free (by assumption)))))))))))))) | exact upd_free (upd_free (upd_free (upd_free (upd_free (upd_free (upd_free (upd_free (upd_free (upd_free (upd_free (upd_free (upd_free (upd_free (upd_free (by assumption))))))))))))))) | (refine' Same.free ?h1 ?h2; (case h1 => assumption); (case h2 => walk_at "fr")))
local macro_rules | `(tactic| walk_at "sm") => `(tactic| first | assumption | exact Same.refl _ | (refine Same.snew ?h1 ?h2; (case h2 => walk_at "fr"); (case h1 => walk_at "sm")) | (refine' Same.fr1 ?h1 ?h2 ?h3; (case h2 => assumption); (case h3 => walk_at "fr"); (case h1 => walk_at "sm")) | (refine' Same.trans ?h1 ?h2; (case h2 => assumption); (case h1 => walk_at "sm")))
local macro_rules | `(tactic| walk_at "eqv") => `(tactic| first | (simp [PyData.eqv, PyData.eqvAll, *]; done) | (simp_all [PyData.eqv, PyData.eqvAll]; done))
local macro_rules | `(tactic| walk_at "prd") => `(tactic| first | exact Paired.nil | (refine' Paired.cons ?h1 ?h2; (case h1 => (first | exact ClsV.ty _ | exact ClsV.own _)); (case h2 => walk_at "prd")))
local macro_rules | `(tactic| walk_at "kia") => `(tactic| first | assumption | exact ka_nil | exact ka_t (by walk_at "kit") | (refine ka_f (by walk_at "kit") ?_; walk_at "kia"))
local macro_rules | `(tactic| walk_at "lu") => `(tactic| first | assumption | with_reducible exact lu_hd | (refine Eq.trans (lu_tl (by decide +kernel)) ?_; walk_at "lu"))
local macro_rules | `(tactic| walk_at "nn") => `(tactic| first | assumption | exact NN.nil | (refine NN.cons (by walk_at "sd") ?_; walk_at "nn"))
local macro_rules | `(tactic| walk_at "rdn") => `(tactic| repeat (first | walk_at "rd0" | walk_at "rc" | ((with_reducible refine q_ifd ?h1 ?_); (case h1 => (first | assumption | decide | omega))) | ((with_reducible refine q_ifn ?h1 ?_); (case h1 => (first | assumption | decide | omega)))))

def topS (i : Nat) : Stmt := PySem.Challenge.pw_causehall_k01_words.main.body.getD i (.Pass ⟨0, 0, 0, 0⟩)

abbrev s_law_take : Stmt := topS 22
theorem sc_law_take : FnScope ["pool", "size", "found"] ["pool", "size"] (defScope s_law_take) := ⟨rfl, rfl, rfl, by decide +kernel, rfl, by decide +kernel, by decide +kernel⟩
abbrev s_law_pool : Stmt := topS 21
theorem sc_law_pool : FnScope ["cell", "number", "k", "mix"] ["cell"] (defScope s_law_pool) := ⟨rfl, rfl, rfl, by decide +kernel, rfl, by decide +kernel, by decide +kernel⟩
abbrev s_law_sign : Stmt := topS 23
theorem sc_law_sign : FnScope ["pool", "signs"] ["pool"] (defScope s_law_sign) := ⟨rfl, rfl, rfl, by decide +kernel, rfl, by decide +kernel, by decide +kernel⟩
abbrev s_is_text_of : Stmt := topS 7
theorem sc_is_text_of : FnScope ["thing", "first", "last", "most", "sign"] ["thing", "first", "last", "most"] (defScope s_is_text_of) := ⟨rfl, rfl, rfl, by decide +kernel, rfl, by decide +kernel, by decide +kernel⟩
abbrev s_is_word : Stmt := topS 5
theorem sc_is_word : FnScope ["thing"] ["thing"] (defScope s_is_word) := ⟨rfl, rfl, rfl, by decide +kernel, rfl, by decide +kernel, by decide +kernel⟩
abbrev s_number_in : Stmt := topS 6
theorem sc_number_in : FnScope ["thing"] ["thing"] (defScope s_number_in) := ⟨rfl, rfl, rfl, by decide +kernel, rfl, by decide +kernel, by decide +kernel⟩
abbrev s_law_is_word : Stmt := topS 25
theorem sc_law_is_word : FnScope ["text", "sign"] ["text"] (defScope s_law_is_word) := ⟨rfl, rfl, rfl, by decide +kernel, rfl, by decide +kernel, by decide +kernel⟩
abbrev s_law_number : Stmt := topS 26
theorem sc_law_number : FnScope ["text", "sign"] ["text"] (defScope s_law_number) := ⟨rfl, rfl, rfl, by decide +kernel, rfl, by decide +kernel, by decide +kernel⟩
abbrev s_is_whole : Stmt := topS 4
theorem sc_is_whole : FnScope ["thing", "low", "high"] ["thing", "low", "high"] (defScope s_is_whole) := ⟨rfl, rfl, rfl, by decide +kernel, rfl, by decide +kernel, by decide +kernel⟩
abbrev s_law_texts_right : Stmt := topS 28
theorem sc_law_texts_right : FnScope ["text", "told", "due"] ["text"] (defScope s_law_texts_right) := ⟨rfl, rfl, rfl, by decide +kernel, rfl, by decide +kernel, by decide +kernel⟩
abbrev s_law_spoilt : Stmt := topS 24
theorem sc_law_spoilt : FnScope ["text", "way", "place", "sign", "at"] ["text", "way", "place", "sign"] (defScope s_law_spoilt) := ⟨rfl, rfl, rfl, by decide +kernel, rfl, by decide +kernel, by decide +kernel⟩
abbrev s_law_numbers_right : Stmt := topS 27
theorem sc_law_numbers_right : FnScope ["pool", "number", "lower", "upper", "due", "told", "within", "answer"] ["pool"] (defScope s_law_numbers_right) := ⟨rfl, rfl, rfl, by decide +kernel, rfl, by decide +kernel, by decide +kernel⟩
abbrev s_is_list : Stmt := topS 15
theorem sc_is_list : FnScope ["thing"] ["thing"] (defScope s_is_list) := ⟨rfl, rfl, rfl, by decide +kernel, rfl, by decide +kernel, by decide +kernel⟩
abbrev s_Counts_init : Stmt := inClass (topS 19) 0
theorem sc_Counts_init : FnScope ["self", "numbers", "number"] ["self", "numbers"] (defScope s_Counts_init) := ⟨rfl, rfl, rfl, by decide +kernel, rfl, by decide +kernel, by decide +kernel⟩
abbrev s_law_things : Stmt := topS 29
theorem sc_law_things : FnScope ["thing"] [] (defScope s_law_things) := ⟨rfl, rfl, rfl, by decide +kernel, rfl, by decide +kernel, by decide +kernel⟩
abbrev s_law : Stmt := topS 30
theorem sc_law : FnScope ["script", "cell", "pool", "ways", "places", "signs", "word", "k", "figures", "text"] ["script"] (defScope s_law) := ⟨rfl, rfl, rfl, by decide +kernel, rfl, by decide +kernel, by decide +kernel⟩
structure Tx (K : PySem.W.Frag) (mg : Str → Option Value) where
  f_law_take : Addr
  d_law_take : FuncData
  F_law_take : Fun K "_law_take" "_law_take" s_law_take f_law_take d_law_take
  m_law_take : mg "_law_take" = some (.ref f_law_take)
  k_law_take : PySem.W.keepIn K (.ref f_law_take) = true
  b_law_take : Binds K d_law_take ["pool", "size"] []
  f_law_pool : Addr
  d_law_pool : FuncData
  F_law_pool : Fun K "_law_pool" "_law_pool" s_law_pool f_law_pool d_law_pool
  m_law_pool : mg "_law_pool" = some (.ref f_law_pool)
  k_law_pool : PySem.W.keepIn K (.ref f_law_pool) = true
  b_law_pool : Binds K d_law_pool ["cell"] []
  f_law_sign : Addr
  d_law_sign : FuncData
  F_law_sign : Fun K "_law_sign" "_law_sign" s_law_sign f_law_sign d_law_sign
  m_law_sign : mg "_law_sign" = some (.ref f_law_sign)
  k_law_sign : PySem.W.keepIn K (.ref f_law_sign) = true
  b_law_sign : Binds K d_law_sign ["pool"] []
  f_is_text_of : Addr
  d_is_text_of : FuncData
  F_is_text_of : Fun K "is_text_of" "is_text_of" s_is_text_of f_is_text_of d_is_text_of
  m_is_text_of : mg "is_text_of" = some (.ref f_is_text_of)
  k_is_text_of : PySem.W.keepIn K (.ref f_is_text_of) = true
  b_is_text_of : Binds K d_is_text_of ["thing", "first", "last", "most"] []
  f_is_word : Addr
  d_is_word : FuncData
  F_is_word : Fun K "is_word" "is_word" s_is_word f_is_word d_is_word
  m_is_word : mg "is_word" = some (.ref f_is_word)
  k_is_word : PySem.W.keepIn K (.ref f_is_word) = true
  b_is_word : Binds K d_is_word ["thing"] []
  f_number_in : Addr
  d_number_in : FuncData
  F_number_in : Fun K "number_in" "number_in" s_number_in f_number_in d_number_in
  m_number_in : mg "number_in" = some (.ref f_number_in)
  k_number_in : PySem.W.keepIn K (.ref f_number_in) = true
  b_number_in : Binds K d_number_in ["thing"] []
  f_law_is_word : Addr
  d_law_is_word : FuncData
  F_law_is_word : Fun K "_law_is_word" "_law_is_word" s_law_is_word f_law_is_word d_law_is_word
  m_law_is_word : mg "_law_is_word" = some (.ref f_law_is_word)
  k_law_is_word : PySem.W.keepIn K (.ref f_law_is_word) = true
  b_law_is_word : Binds K d_law_is_word ["text"] []
  f_law_number : Addr
  d_law_number : FuncData
  F_law_number : Fun K "_law_number" "_law_number" s_law_number f_law_number d_law_number
  m_law_number : mg "_law_number" = some (.ref f_law_number)
  k_law_number : PySem.W.keepIn K (.ref f_law_number) = true
  b_law_number : Binds K d_law_number ["text"] []
  f_is_whole : Addr
  d_is_whole : FuncData
  F_is_whole : FunD K "is_whole" "is_whole" (defArgs s_is_whole) (defBody s_is_whole) (defScope s_is_whole) [.non] [] f_is_whole d_is_whole
  m_is_whole : mg "is_whole" = some (.ref f_is_whole)
  k_is_whole : PySem.W.keepIn K (.ref f_is_whole) = true
  ds_is_whole_2 : List Value
  v_is_whole_2 : Vals [.non] ds_is_whole_2
  b_is_whole_2 : Binds K d_is_whole ["thing", "low", "high"] ds_is_whole_2
  b_is_whole : Binds K d_is_whole ["thing", "low", "high"] []
  kb_is_whole_1_low_high : KBn K d_is_whole ["thing", "low", "high"] 1 ["low", "high"] (fun us ws => us ++ ws) (fun vs zs => vs ++ zs)
  f_law_texts_right : Addr
  d_law_texts_right : FuncData
  F_law_texts_right : Fun K "_law_texts_right" "_law_texts_right" s_law_texts_right f_law_texts_right d_law_texts_right
  m_law_texts_right : mg "_law_texts_right" = some (.ref f_law_texts_right)
  k_law_texts_right : PySem.W.keepIn K (.ref f_law_texts_right) = true
  b_law_texts_right : Binds K d_law_texts_right ["text"] []
  f_law_spoilt : Addr
  d_law_spoilt : FuncData
  F_law_spoilt : Fun K "_law_spoilt" "_law_spoilt" s_law_spoilt f_law_spoilt d_law_spoilt
  m_law_spoilt : mg "_law_spoilt" = some (.ref f_law_spoilt)
  k_law_spoilt : PySem.W.keepIn K (.ref f_law_spoilt) = true
  b_law_spoilt : Binds K d_law_spoilt ["text", "way", "place", "sign"] []
  f_law_numbers_right : Addr
  d_law_numbers_right : FuncData
  F_law_numbers_right : Fun K "_law_numbers_right" "_law_numbers_right" s_law_numbers_right f_law_numbers_right d_law_numbers_right
  m_law_numbers_right : mg "_law_numbers_right" = some (.ref f_law_numbers_right)
  k_law_numbers_right : PySem.W.keepIn K (.ref f_law_numbers_right) = true
  b_law_numbers_right : Binds K d_law_numbers_right ["pool"] []
  f_is_list : Addr
  d_is_list : FuncData
  F_is_list : Fun K "is_list" "is_list" s_is_list f_is_list d_is_list
  m_is_list : mg "is_list" = some (.ref f_is_list)
  k_is_list : PySem.W.keepIn K (.ref f_is_list) = true
  b_is_list : Binds K d_is_list ["thing"] []
  f_Counts_init : Addr
  d_Counts_init : FuncData
  F_Counts_init : Fun K "__init__" "Counts.__init__" s_Counts_init f_Counts_init d_Counts_init
  b_Counts_init : Binds K d_Counts_init ["self", "numbers"] []
  f_law_things : Addr
  d_law_things : FuncData
  F_law_things : Fun K "_law_things" "_law_things" s_law_things f_law_things d_law_things
  m_law_things : mg "_law_things" = some (.ref f_law_things)
  k_law_things : PySem.W.keepIn K (.ref f_law_things) = true
  b_law_things : Binds K d_law_things [] []
  f_law : Addr
  d_law : FuncData
  F_law : Fun K "law" "law" s_law f_law d_law
  m_law : mg "law" = some (.ref f_law)
  k_law : PySem.W.keepIn K (.ref f_law) = true
  b_law : Binds K d_law ["script"] []
  C_Counts : Addr
  g_Counts : mg "Counts" = some (.ref C_Counts)
  c_Counts : Cls K C_Counts
  ha_Counts : PySem.W.findIn K (.ref C_Counts) "__class__" = some (some (.builtin "object.__class__"))
  hm_Counts : PySem.W.mroIn K C_Counts (.type "object") = some true
  n_Counts__numbers : NoAttr K C_Counts "_numbers"
  mk_Counts : Mk K C_Counts f_Counts_init
  hn : PySem.W.specialIn K (.builtin "object.__class__") "__get__" = some (some (.builtin "getset_descriptor.__get__"))
  htk : PySem.W.takesIn K (.builtin "object.__class__") = some true
  ks_Counts : PySem.W.subIn K (.ref C_Counts) (.type "str") = some false
  ki_Counts : PySem.W.subIn K (.ref C_Counts) (.type "int") = some false
  z_all : mg "all" = none
  z_bool : mg "bool" = none
  z_int : mg "int" = none
  z_isinstance : mg "isinstance" = none
  z_len : mg "len" = none
  z_list : mg "list" = none
  z_max : mg "max" = none
  z_min : mg "min" = none
  z_range : mg "range" = none
  z_str : mg "str" = none
  z_tuple : mg "tuple" = none
  t_LEAST_MEMBERS : Tok
  g_LEAST_MEMBERS : mg "LEAST_MEMBERS" = some (.int 2 t_LEAST_MEMBERS)
  t_MOST_FIGURES : Tok
  g_MOST_FIGURES : mg "MOST_FIGURES" = some (.int 30 t_MOST_FIGURES)
  t_MOST_MEMBERS : Tok
  g_MOST_MEMBERS : mg "MOST_MEMBERS" = some (.int 5 t_MOST_MEMBERS)
  t_MOST_SIGNS : Tok
  g_MOST_SIGNS : mg "MOST_SIGNS" = some (.int 8 t_MOST_SIGNS)
/-! ### the data -/
/-- a text of signs from one to another -/
def textB (s : Str) (lo hi : Nat) (m : Int) : Bool := decide (1 ≤ (s.length : Int)) && decide ((s.length : Int) ≤ m) && s.cps.toList.all fun c => decide (lo ≤ c) && decide (c ≤ hi)
def sp_law_pool  : Sp := fun vs H Q E => (∃ (cell : Int), vs = [.int cell] ∧ ∀ (p : Addr) (n : Int), H p = none → 0 ≤ n → Q (.ref p) (upd H p (.lst [.int n])))
theorem r_law_pool  {H : Hp} {Q : VK} {E : XK} {vv : List V} {cell : Int} (ee : vv = [.int cell])  (k : ∀ (p : Addr) (n : Int), H p = none → 0 ≤ n → Q (.ref p) (upd H p (.lst [.int n]))) : sp_law_pool  vv H Q E := by
  subst ee
  exact ⟨cell, rfl, k⟩
def sp_law_take  : Sp := fun vs H Q E => (∃ (p : Addr) (n m : Int), vs = [.ref p, .int m] ∧ (H p = some (.lst [.int n])) ∧ (0 < m) ∧ (m.natAbs < 2 ^ 8000) ∧ Q (.int (n % m)) (upd H p (.lst [.int (n / m)])))
theorem r_law_take  {H : Hp} {Q : VK} {E : XK} {vv : List V} {p : Addr} {n m : Int} (ee : vv = [.ref p, .int m]) (hp : H p = some (.lst [.int n])) (hm : 0 < m) (hb : m.natAbs < 2 ^ 8000) (k : Q (.int (n % m)) (upd H p (.lst [.int (n / m)]))) : sp_law_take  vv H Q E := by
  subst ee
  exact ⟨p, n, m, rfl, hp, hm, hb, k⟩
def sp_law_sign  : Sp := fun vs H Q E => (∃ (p : Addr) (n : Int), vs = [.ref p] ∧ (H p = some (.lst [.int n])) ∧ ∀ (c : Nat), Q (.str ⟨#[c]⟩) (upd H p (.lst [.int (n / 95)])))
theorem r_law_sign  {H : Hp} {Q : VK} {E : XK} {vv : List V} {p : Addr} {n : Int} (ee : vv = [.ref p]) (hp : H p = some (.lst [.int n])) (k : ∀ (c : Nat), Q (.str ⟨#[c]⟩) (upd H p (.lst [.int (n / 95)]))) : sp_law_sign  vv H Q E := by
  subst ee
  exact ⟨p, n, rfl, hp, k⟩
def sp_is_text_of (K : PySem.W.Frag) : Sp := fun vs H Q E => (∃ (s f l : Str) (lo hi : Nat) (m : Int), vs = [.str s, .str f, .str l, .int m] ∧ (s.length ≤ 1000) ∧ (f.cps.toList = [lo]) ∧ (l.cps.toList = [hi]) ∧ ∀ H', Same H H' → Q (.bl (textB s lo hi m)) H') ∨
  (∃ (x y z u : V) (t : Value), vs = [x, y, z, u] ∧ (TyX K H x t) ∧ (PySem.W.kitOne K t (.type "str") = some false) ∧ Q (.bl false) H)
theorem r_is_text_of_1 {K : PySem.W.Frag} {H : Hp} {Q : VK} {E : XK} {vv : List V} {s f l : Str} {lo hi : Nat} {m : Int} (ee : vv = [.str s, .str f, .str l, .int m]) (hl : s.length ≤ 1000) (hf : f.cps.toList = [lo]) (hg : l.cps.toList = [hi]) (k : ∀ H', Same H H' → Q (.bl (textB s lo hi m)) H') : sp_is_text_of K vv H Q E := by
  subst ee
  exact .inl ⟨s, f, l, lo, hi, m, rfl, hl, hf, hg, k⟩
theorem r_is_text_of_2 {K : PySem.W.Frag} {H : Hp} {Q : VK} {E : XK} {vv : List V} {x y z u : V} {t : Value} (ee : vv = [x, y, z, u]) (ht : TyX K H x t) (hk : PySem.W.kitOne K t (.type "str") = some false) (k : Q (.bl false) H) : sp_is_text_of K vv H Q E := by
  subst ee
  exact .inr (⟨x, y, z, u, t, rfl, ht, hk, k⟩)
/-- what a text plainly writes -/
def numV (s : Str) : V := if textB s 48 57 30 = true then (if (s.cps.toList.head? = some 48 ∧ 1 < s.length) then .non else .int ((PySem.NumText.digitsVal s.cps.toList : Nat) : Int)) else .non
def sp_is_word (K : PySem.W.Frag) : Sp := fun vs H Q E => (∃ (s : Str), vs = [.str s] ∧ (s.length ≤ 1000) ∧ ∀ H', Same H H' → Q (.bl (textB s 97 122 8)) H') ∨
  (∃ (x : V) (t : Value), vs = [x] ∧ (TyX K H x t) ∧ (PySem.W.kitOne K t (.type "str") = some false) ∧ Q (.bl false) H)
theorem r_is_word_1 {K : PySem.W.Frag} {H : Hp} {Q : VK} {E : XK} {vv : List V} {s : Str} (ee : vv = [.str s]) (hl : s.length ≤ 1000) (k : ∀ H', Same H H' → Q (.bl (textB s 97 122 8)) H') : sp_is_word K vv H Q E := by
  subst ee
  exact .inl ⟨s, rfl, hl, k⟩
theorem r_is_word_2 {K : PySem.W.Frag} {H : Hp} {Q : VK} {E : XK} {vv : List V} {x : V} {t : Value} (ee : vv = [x]) (ht : TyX K H x t) (hk : PySem.W.kitOne K t (.type "str") = some false) (k : Q (.bl false) H) : sp_is_word K vv H Q E := by
  subst ee
  exact .inr (⟨x, t, rfl, ht, hk, k⟩)
def sp_number_in (K : PySem.W.Frag) : Sp := fun vs H Q E => (∃ (s : Str), vs = [.str s] ∧ (s.length ≤ 1000) ∧ ∀ H', Same H H' → Q (numV s) H') ∨
  (∃ (x : V) (t : Value), vs = [x] ∧ (TyX K H x t) ∧ (PySem.W.kitOne K t (.type "str") = some false) ∧ Q .non H)
theorem r_number_in_1 {K : PySem.W.Frag} {H : Hp} {Q : VK} {E : XK} {vv : List V} {s : Str} (ee : vv = [.str s]) (hl : s.length ≤ 1000) (k : ∀ H', Same H H' → Q (numV s) H') : sp_number_in K vv H Q E := by
  subst ee
  exact .inl ⟨s, rfl, hl, k⟩
theorem r_number_in_2 {K : PySem.W.Frag} {H : Hp} {Q : VK} {E : XK} {vv : List V} {x : V} {t : Value} (ee : vv = [x]) (ht : TyX K H x t) (hk : PySem.W.kitOne K t (.type "str") = some false) (k : Q .non H) : sp_number_in K vv H Q E := by
  subst ee
  exact .inr (⟨x, t, rfl, ht, hk, k⟩)
def sp_is_whole (K : PySem.W.Frag) : Sp := fun vs H Q E => (∃ (n a : Int), vs = [.int n, .int a, .non] ∧ Q (.bl (decide (a ≤ n))) H) ∨
  (∃ (n a b : Int), vs = [.int n, .int a, .int b] ∧ Q (.bl (decide (a ≤ n) && decide (n ≤ b))) H) ∨
  (∃ (c : Bool) (y z : V), vs = [.bl c, y, z] ∧ Q (.bl false) H) ∨
  (∃ (x y z : V) (t : Value), vs = [x, y, z] ∧ (TyX K H x t) ∧ (PySem.W.kitOne K t (.type "int") = some false) ∧ Q (.bl false) H)
theorem r_is_whole_1 {K : PySem.W.Frag} {H : Hp} {Q : VK} {E : XK} {vv : List V} {n a : Int} (ee : vv = [.int n, .int a, .non])  (k : Q (.bl (decide (a ≤ n))) H) : sp_is_whole K vv H Q E := by
  subst ee
  exact .inl ⟨n, a, rfl, k⟩
theorem r_is_whole_2 {K : PySem.W.Frag} {H : Hp} {Q : VK} {E : XK} {vv : List V} {n a b : Int} (ee : vv = [.int n, .int a, .int b])  (k : Q (.bl (decide (a ≤ n) && decide (n ≤ b))) H) : sp_is_whole K vv H Q E := by
  subst ee
  exact .inr (.inl ⟨n, a, b, rfl, k⟩)
theorem r_is_whole_3 {K : PySem.W.Frag} {H : Hp} {Q : VK} {E : XK} {vv : List V} {c : Bool} {y z : V} (ee : vv = [.bl c, y, z])  (k : Q (.bl false) H) : sp_is_whole K vv H Q E := by
  subst ee
  exact .inr (.inr (.inl ⟨c, y, z, rfl, k⟩))
theorem r_is_whole_4 {K : PySem.W.Frag} {H : Hp} {Q : VK} {E : XK} {vv : List V} {x y z : V} {t : Value} (ee : vv = [x, y, z]) (ht : TyX K H x t) (hk : PySem.W.kitOne K t (.type "int") = some false) (k : Q (.bl false) H) : sp_is_whole K vv H Q E := by
  subst ee
  exact .inr (.inr (.inr (⟨x, y, z, t, rfl, ht, hk, k⟩)))
def sp_law_is_word (K : PySem.W.Frag) : Sp := fun vs H Q E => (∃ (s : Str), vs = [.str s] ∧ (s.length ≤ 1000) ∧ ∀ H', Same H H' → Q (.bl (textB s 97 122 8)) H')
theorem r_law_is_word {K : PySem.W.Frag} {H : Hp} {Q : VK} {E : XK} {vv : List V} {s : Str} (ee : vv = [.str s]) (hl : s.length ≤ 1000) (k : ∀ H', Same H H' → Q (.bl (textB s 97 122 8)) H') : sp_law_is_word K vv H Q E := by
  subst ee
  exact ⟨s, rfl, hl, k⟩
def sp_law_number (K : PySem.W.Frag) : Sp := fun vs H Q E => (∃ (s : Str), vs = [.str s] ∧ (s.length ≤ 1000) ∧ ∀ H', Same H H' → Q (numV s) H')
theorem r_law_number {K : PySem.W.Frag} {H : Hp} {Q : VK} {E : XK} {vv : List V} {s : Str} (ee : vv = [.str s]) (hl : s.length ≤ 1000) (k : ∀ H', Same H H' → Q (numV s) H') : sp_law_number K vv H Q E := by
  subst ee
  exact ⟨s, rfl, hl, k⟩
def sp_law_texts_right (K : PySem.W.Frag) : Sp := fun vs H Q E => (∃ (s : Str), vs = [.str s] ∧ (s.length ≤ 1000) ∧ ∀ H', Same H H' → Q (.bl true) H')
theorem r_law_texts_right {K : PySem.W.Frag} {H : Hp} {Q : VK} {E : XK} {vv : List V} {s : Str} (ee : vv = [.str s]) (hl : s.length ≤ 1000) (k : ∀ H', Same H H' → Q (.bl true) H') : sp_law_texts_right K vv H Q E := by
  subst ee
  exact ⟨s, rfl, hl, k⟩
def sp_law_spoilt  : Sp := fun vs H Q E => (∃ (s g : Str) (n m : Int), vs = [.str s, .int n, .int m, .str g] ∧ (s.length ≤ 100) ∧ (g.length ≤ 1) ∧ ∀ s' : Str, s'.length ≤ 300 → Q (.str s') H)
theorem r_law_spoilt  {H : Hp} {Q : VK} {E : XK} {vv : List V} {s g : Str} {n m : Int} (ee : vv = [.str s, .int n, .int m, .str g]) (hl : s.length ≤ 100) (hg : g.length ≤ 1) (k : ∀ s' : Str, s'.length ≤ 300 → Q (.str s') H) : sp_law_spoilt  vv H Q E := by
  subst ee
  exact ⟨s, g, n, m, rfl, hl, hg, k⟩
theorem textB_digits {s : Str} (h : textB s 48 57 30 = true) : PySem.NumText.AllDigits s.cps.toList ∧ 1 ≤ s.length ∧ s.length ≤ 30 := by
  unfold textB at h
  simp only [Bool.and_eq_true, decide_eq_true_eq, List.all_eq_true] at h
  exact ⟨fun c hc => h.2 c hc, by omega, by omega⟩
theorem numV_cases (s : Str) : numV s = .non ∨ ∃ n, numV s = .int n := by
  unfold numV
  split
  · split
    · exact .inl rfl
    · exact .inr ⟨_, rfl⟩
  · exact .inl rfl
def sp_law_numbers_right (K : PySem.W.Frag) : Sp := fun vs H Q E => (∃ (p : Addr) (n : Int), vs = [.ref p] ∧ (H p = some (.lst [.int n])) ∧ (0 ≤ n) ∧ ∀ (H' : Hp) (m : Int), 0 ≤ m → H' p = some (.lst [.int m]) → Fr1 p H H' → Q (.bl true) H')
theorem r_law_numbers_right {K : PySem.W.Frag} {H : Hp} {Q : VK} {E : XK} {vv : List V} {p : Addr} {n : Int} (ee : vv = [.ref p]) (hp : H p = some (.lst [.int n])) (hn : 0 ≤ n) (k : ∀ (H' : Hp) (m : Int), 0 ≤ m → H' p = some (.lst [.int m]) → Fr1 p H H' → Q (.bl true) H') : sp_law_numbers_right K vv H Q E := by
  subst ee
  exact ⟨p, n, rfl, hp, hn, k⟩
def sp_law_things (K : PySem.W.Frag) : Sp := fun vs H Q E => (∃ (u : Unit), vs = [] ∧ ∀ H', Q (.bl true) H')
theorem r_law_things {K : PySem.W.Frag} {H : Hp} {Q : VK} {E : XK} {vv : List V} {u : Unit} (ee : vv = [])  (k : ∀ H', Q (.bl true) H') : sp_law_things K vv H Q E := by
  subst ee
  exact ⟨u, rfl, k⟩
def sp_is_list (K : PySem.W.Frag) : Sp := fun vs H Q E => (∃ (x : V) (t : Value) (b : Bool), vs = [x] ∧ (TyX K H x t) ∧ (PySem.W.kitAny K t [.type "list", .type "tuple"] = some b) ∧ ∀ H', Same H H' → Q (.bl b) H')
theorem r_is_list {K : PySem.W.Frag} {H : Hp} {Q : VK} {E : XK} {vv : List V} {x : V} {t : Value} {b : Bool} (ee : vv = [x]) (ht : TyX K H x t) (hk : PySem.W.kitAny K t [.type "list", .type "tuple"] = some b) (k : ∀ H', Same H H' → Q (.bl b) H') : sp_is_list K vv H Q E := by
  subst ee
  exact ⟨x, t, b, rfl, ht, hk, k⟩
def sp_Counts_init (K : PySem.W.Frag) (C : Addr) : Sp := fun vs H Q E => (∃ (p dx a : Addr) (xs : List V), vs = [.ref p, .ref a] ∧ (H p = some (.ins C dx [])) ∧ (H a = some (.lst xs)) ∧ (2 ≤ xs.length) ∧ (xs.length ≤ 5) ∧ (NN xs) ∧ ∀ (t : Addr) (H' : Hp), Fr1 p H H' → H' p = some (.ins C dx [("_numbers", .ref t)]) → H' t = some (.tup xs) → Q .non H')
theorem r_Counts_init {K : PySem.W.Frag} {C : Addr} {H : Hp} {Q : VK} {E : XK} {vv : List V} {p dx a : Addr} {xs : List V} (ee : vv = [.ref p, .ref a]) (hp : H p = some (.ins C dx [])) (ha : H a = some (.lst xs)) (hl : 2 ≤ xs.length) (hl2 : xs.length ≤ 5) (hn : NN xs) (k : ∀ (t : Addr) (H' : Hp), Fr1 p H H' → H' p = some (.ins C dx [("_numbers", .ref t)]) → H' t = some (.tup xs) → Q .non H') : sp_Counts_init K C vv H Q E := by
  subst ee
  exact ⟨p, dx, a, xs, rfl, hp, ha, hl, hl2, hn, k⟩
def sp_law (K : PySem.W.Frag) : Sp := fun vs H Q E => (∃ (a : Addr) (ns : List Int), vs = [.ref a] ∧ (SqL K H a (ns.map V.int)) ∧ (ns.length ≤ 63) ∧ ∀ H', Q (.bl true) H')
theorem r_law {K : PySem.W.Frag} {H : Hp} {Q : VK} {E : XK} {vv : List V} {a : Addr} {ns : List Int} (ee : vv = [.ref a]) (hs : SqL K H a (ns.map V.int)) (hl : ns.length ≤ 63) (k : ∀ H', Q (.bl true) H') : sp_law K vv H Q E := by
  subst ee
  exact ⟨a, ns, rfl, hs, hl, k⟩

local macro_rules | `(tactic| walk_at "tya") => `(tactic| first | fail | exact .base (.ins (by assumption) (Tx.c_Counts (by assumption)) (Tx.ha_Counts (by assumption)) (Tx.hn (by assumption)) (Tx.htk (by assumption)) (Tx.hm_Counts (by assumption))))
local macro_rules | `(tactic| walk_at "tyo") => `(tactic| first | fail | exact .base (.ins (by walk_at "lk") (Tx.c_Counts (by assumption)) (Tx.ha_Counts (by assumption)) (Tx.hn (by assumption)) (Tx.htk (by assumption)) (Tx.hm_Counts (by assumption))))
local macro_rules | `(tactic| walk_at "kio") => `(tactic| first | fail | exact kit_sub (by decide +kernel) (Tx.ks_Counts (by assumption)) | exact kit_sub (by decide +kernel) (Tx.ki_Counts (by assumption)))
local macro_rules | `(tactic| walk_at "cls") => `(tactic| first | assumption | exact Tx.c_Counts (by assumption))
local macro_rules | `(tactic| walk_at "noa") => `(tactic| first | assumption | exact Tx.n_Counts__numbers (by assumption))
local macro_rules | `(tactic| walk_at "rc") => `(tactic| first
  | fail 
  | ((with_reducible refine' r_law_pool ?ze  ?_); (case ze => exact rfl))
  | ((with_reducible refine' r_law_take ?ze ?z0 ?z1 ?z2 ?_); (case ze => exact rfl); (case z0 => walk_at "lk"); (case z1 => walk_at "sd"); (case z2 => walk_at "sd"))
  | ((with_reducible refine' r_law_sign ?ze ?z0 ?_); (case ze => exact rfl); (case z0 => walk_at "lk"))
  | ((with_reducible refine' r_is_text_of_1 ?ze ?z0 ?z1 ?z2 ?_); (case ze => exact rfl); (case z0 => walk_at "sd"); (case z1 => walk_at "rf"); (case z2 => walk_at "rf"))
  | ((with_reducible refine' r_is_text_of_2 ?ze ?z0 ?z1 ?_); (case ze => exact rfl); (case z0 => walk_at "tyx"); (case z1 => walk_at "kit"))
  | ((with_reducible refine' r_is_word_1 ?ze ?z0 ?_); (case ze => exact rfl); (case z0 => walk_at "sd"))
  | ((with_reducible refine' r_is_word_2 ?ze ?z0 ?z1 ?_); (case ze => exact rfl); (case z0 => walk_at "tyx"); (case z1 => walk_at "kit"))
  | ((with_reducible refine' r_number_in_1 ?ze ?z0 ?_); (case ze => exact rfl); (case z0 => walk_at "sd"))
  | ((with_reducible refine' r_number_in_2 ?ze ?z0 ?z1 ?_); (case ze => exact rfl); (case z0 => walk_at "tyx"); (case z1 => walk_at "kit"))
  | ((with_reducible refine' r_is_whole_1 ?ze  ?_); (case ze => exact rfl))
  | ((with_reducible refine' r_is_whole_2 ?ze  ?_); (case ze => exact rfl))
  | ((with_reducible refine' r_is_whole_3 ?ze  ?_); (case ze => exact rfl))
  | ((with_reducible refine' r_is_whole_4 ?ze ?z0 ?z1 ?_); (case ze => exact rfl); (case z0 => walk_at "tyx"); (case z1 => walk_at "kit"))
  | ((with_reducible refine' r_law_is_word ?ze ?z0 ?_); (case ze => exact rfl); (case z0 => walk_at "sd"))
  | ((with_reducible refine' r_law_number ?ze ?z0 ?_); (case ze => exact rfl); (case z0 => walk_at "sd"))
  | ((with_reducible refine' r_law_texts_right ?ze ?z0 ?_); (case ze => exact rfl); (case z0 => walk_at "sd"))
  | ((with_reducible refine' r_law_spoilt ?ze ?z0 ?z1 ?_); (case ze => exact rfl); (case z0 => walk_at "sd"); (case z1 => walk_at "sd"))
  | ((with_reducible refine' r_law_numbers_right ?ze ?z0 ?z1 ?_); (case ze => exact rfl); (case z0 => walk_at "lk"); (case z1 => walk_at "sd"))
  | ((with_reducible refine' r_law_things (u := ()) ?ze  ?_); (case ze => exact rfl))
  | ((with_reducible refine' r_is_list ?ze ?z0 ?z1 ?_); (case ze => exact rfl); (case z0 => walk_at "tyx"); (case z1 => walk_at "kia"))
  | ((with_reducible refine' r_Counts_init ?ze ?z0 ?z1 ?z2 ?z3 ?z4 ?_); (case ze => exact rfl); (case z0 => walk_at "lk"); (case z1 => walk_at "lk"); (case z2 => walk_at "sd"); (case z3 => walk_at "sd"); (case z4 => walk_at "nn"))
  | ((with_reducible refine' r_law ?ze ?z0 ?z1 ?_); (case ze => exact rfl); (case z0 => walk_at "sq"); (case z1 => walk_at "sd")))
section
variable {P : Program} {w : World} {K : PySem.W.Frag} {mg : Str → Option Value} {base : Heap}

theorem ok_law_take (T : Tx K mg) : FnOk P w K mg base CX0 1 T.f_law_take T.d_law_take ["pool", "size"] (sp_law_take ) := by
  refine T.F_law_take.ok sc_law_take (fun vs H Q E h => ?_) (fun cdv A outer s H vs Q E hr h => ?_)
  · rcases h with ⟨p, n, m, rfl, hp, hm, hb, k⟩
    all_goals rfl
  · have hu := hu_of hr
    refine ⟨_, (pss_cons (ps_set (i := 2) sc_law_take.nd rfl (Or.inl rfl) (pe_op op_mod (pe_ix (ki_list (K := K) rfl) (pv 0) pe_int (fun _ _ => rfl)) (pv 1)))
      (pss_cons (ps_asg (pe_op op_fdivW (pe_ix (ki_list (K := K) rfl) (pv 0) pe_int (fun _ _ => rfl)) (pv 1)) (pg_sub (pv 0) pe_int set_list))
      (pss_one (ps_ret (pv 2))))), ?_⟩
    rcases h with ⟨p, n, m, rfl, hp, hm, hb, k⟩
    walk_at "rd"
    exact k
theorem ok_law_pool (T : Tx K mg) : FnOk P w K mg base CX0 1 T.f_law_pool T.d_law_pool ["cell"] (sp_law_pool ) := by
  refine T.F_law_pool.ok sc_law_pool (fun vs H Q E h => ?_) (fun cdv A outer s H vs Q E hr h => ?_)
  · rcases h with ⟨cell, rfl, k⟩
    all_goals rfl
  · have hu := hu_of hr
    refine ⟨_, (pss_cons (ps_if (pt_cmpR op_ge (pv 0) (pe_op op_pow pe_int pe_int) (nomark _))
      (pss_one (ps_ret (pe_lst (pa_cons (pv 0) (pa_nil))))) pss_nil)
      (pss_cons (ps_set (i := 1) sc_law_pool.nd rfl (Or.inl rfl) pe_int)
      (pss_cons (ps_for PassesOwn.never rfl (pi_range1 rfl T.z_range (pa_cons pe_int (pa_nil))) (pg_name (i := 2) sc_law_pool.nd rfl (Or.inl rfl))
      (pss_cons (ps_set (i := 3) sc_law_pool.nd rfl (Or.inl rfl) (pe_op op_mod (pe_op op_pow (pe_op op_add (pe_op op_add (pe_op op_mul (pe_op op_mod (pv 0) pe_int) pe_int) (pe_op op_mul pe_int (pv 2))) pe_int) pe_int) pe_int))
      (pss_one (ps_set (i := 1) sc_law_pool.nd rfl (Or.inl rfl) (pe_op op_add (pe_op op_mul (pv 1) pe_int) (pe_op op_mod (pe_op op_pow (pe_op op_add (pe_op op_mul (pv 3) pe_int) (pv 2)) pe_int) pe_int))))))
      (pss_one (ps_ret (pe_lst (pa_cons (pv 1) (pa_nil)))))))), ?_⟩
    rcases h with ⟨cell, rfl, k⟩
    walk_at "rd"
    refine q_ifx (fun hc => ?_) (fun hc => ?_)
    · walk_at "rd"
      have : (10:Int) ^ Int.toNat 18 = 1000000000000000000 := by decide
      exact k _ _ (by assumption) (by omega)
    · walk_at "rd"
      refine for_range (n := 9) (fun i σ H' => ∃ (z : Int) (a b : Option V), σ = [some (.int cell), some (.int z), a, b] ∧ 0 ≤ z ∧ H' = H) ⟨0, none, none, rfl, Int.le_refl _, rfl⟩ ?_ ?_
      · rintro i σ H' hi ⟨z, a, b, rfl, hz, rfl⟩
        walk_at "rd"
        exact ⟨_, _, _, rfl, by omega, rfl⟩
      · rintro σ H' ⟨z, a, b, rfl, hz, rfl⟩
        walk_at "rd"
        exact k _ _ (by assumption) hz
theorem ok_law_sign (T : Tx K mg) : FnOk P w K mg base CX0 2 T.f_law_sign T.d_law_sign ["pool"] (sp_law_sign ) := by
  refine T.F_law_sign.ok sc_law_sign (fun vs H Q E h => ?_) (fun cdv A outer s H vs Q E hr h => ?_)
  · rcases h with ⟨p, n, rfl, hp, k⟩
    all_goals rfl
  · have hu := hu_of hr
    refine ⟨_, (pss_cons (ps_set (i := 1) sc_law_sign.nd rfl (Or.inl rfl) pe_str)
      (pss_one (ps_ret (pe_ix ix_str (pv 1) (pe_call (ok_law_take T) (hr.mono (by decide)) rfl T.m_law_take T.k_law_take T.b_law_take .nil pass0 (pa_cons (pv 0) (pa_cons pe_int (pa_nil)))) (fun _ _ => rfl))))), ?_⟩
    rcases h with ⟨p, n, rfl, hp, k⟩
    walk_at "rd"
    obtain ⟨c, hc⟩ := at_ex (xs := (Str.ofString " !\"#$&'()*+,-./0123456789:;<=>?@ABCDEFGHIJKLMNOPQRSTUVWXYZ[\\]^_`abcdefghijklmnopqrstuvwxyz{|}~\n").cps.toList) (i := n % 95) (by omega) (by show n % 95 < 95; omega)
    refine q_ixS (by decide) hc ?_
    exact k c
theorem ok_is_text_of (T : Tx K mg) : FnOk P w K mg base CX0 1 T.f_is_text_of T.d_is_text_of ["thing", "first", "last", "most"] (sp_is_text_of K) := by
  refine T.F_is_text_of.ok sc_is_text_of (fun vs H Q E h => ?_) (fun cdv A outer s H vs Q E hr h => ?_)
  · rcases h with ⟨s, f, l, lo, hi, m, rfl, hl, hf, hg, k⟩ | ⟨x, y, z, u, t, rfl, ht, hk, k⟩
    all_goals rfl
  · have hu := hu_of hr
    refine ⟨_, (pss_cons (ps_if (PW.pt (pw_or (pt_not (pt_val (pe_callB (id := "isinstance") (kx_isi (K := K) rfl) (by rfl) T.z_isinstance (by decide +kernel) (pa_cons (pv 0) (pa_cons (pe_bltn (v := .ty "str") (u := .type "str") (by rfl) T.z_str (by decide +kernel) rfl) (pa_nil)))))) (pw_or1 (pt_not (pt_chain op_le op_le pe_int (pe_callB (id := "len") (kx_len (K := K) rfl) (by rfl) T.z_len (by decide +kernel) (pa_cons (pv 0) (pa_nil))) (pv 3))))))
      (pss_one (ps_ret pe_bl)) pss_nil)
      (pss_one (ps_ret (pe_callB (id := "all") (kx_all (K := K) rfl rfl) (by rfl) T.z_all (by decide +kernel) (pa_cons (pe_lc (own := [("sign", 4)]) (g := gName 4) (tt := tYes) rfl sc_is_text_of.nd (pi_str (pv 0)) (blkOk_by (own := [("sign", 4)]) (N := ["thing", "first", "last", "most", "sign"]) (sc := defScope s_is_text_of) (by decide +kernel)) (fun _ _ _ _ _ => (pg_name (i := 4) sc_is_text_of.nd rfl (Or.inl rfl))) (fun _ _ _ _ _ => pts_nil) (fun _ _ _ _ _ => (pe_chain op_leStr op_leStr (pv 1) (pv 4) (pv 2)))) (pa_nil)))))), ?_⟩
    rcases h with ⟨s, f, l, lo, hi, m, rfl, hl, hf, hg, k⟩ | ⟨x, y, z, u, t, rfl, ht, hk, k⟩
    · walk_at "rdx"
      · refine lc_signsB (fun c => decide (lo ≤ c) && decide (c ≤ hi)) (by omega) (by assumption) ?_ ?_
        · intro c H2 R s2 hR
          walk_at "rdx"
          all_goals exact R_of (hR H2 (Same.refl H2)) (by walk_at "sv")
        · intro H' s2 e
          walk_at "rd"
          exact R_of (k H' s2) (by unfold textB; simp_all [List.all_map])
      all_goals exact R_of (k H (Same.refl H)) (by unfold textB; walk_at "sv")
    · walk_at "rdx"
      exact k
theorem ok_is_word (T : Tx K mg) : FnOk P w K mg base CX0 2 T.f_is_word T.d_is_word ["thing"] (sp_is_word K) := by
  refine T.F_is_word.ok sc_is_word (fun vs H Q E h => ?_) (fun cdv A outer s H vs Q E hr h => ?_)
  · rcases h with ⟨s, rfl, hl, k⟩ | ⟨x, t, rfl, ht, hk, k⟩
    all_goals rfl
  · have hu := hu_of hr
    refine ⟨_, (pss_one (ps_ret (pe_call (ok_is_text_of T) (hr.mono (by decide)) rfl T.m_is_text_of T.k_is_text_of T.b_is_text_of .nil pass0 (pa_cons (pv 0) (pa_cons pe_str (pa_cons pe_str (pa_cons (pe_glob (v := .int 8) rfl T.g_MOST_SIGNS ⟨_, rfl⟩) (pa_nil)))))))), ?_⟩
    rcases h with ⟨s, rfl, hl, k⟩ | ⟨x, t, rfl, ht, hk, k⟩
    · walk_at "rd"
      exact k _ (by assumption)
    · walk_at "rd"
      exact k
theorem ok_number_in (T : Tx K mg) : FnOk P w K mg base CX0 2 T.f_number_in T.d_number_in ["thing"] (sp_number_in K) := by
  refine T.F_number_in.ok sc_number_in (fun vs H Q E h => ?_) (fun cdv A outer s H vs Q E hr h => ?_)
  · rcases h with ⟨s, rfl, hl, k⟩ | ⟨x, t, rfl, ht, hk, k⟩
    all_goals rfl
  · have hu := hu_of hr
    refine ⟨_, (pss_cons (ps_if (pt_not (pt_val (pe_call (ok_is_text_of T) (hr.mono (by decide)) rfl T.m_is_text_of T.k_is_text_of T.b_is_text_of .nil pass0 (pa_cons (pv 0) (pa_cons pe_str (pa_cons pe_str (pa_cons (pe_glob (v := .int 30) rfl T.g_MOST_FIGURES ⟨_, rfl⟩) (pa_nil))))))))
      (pss_one (ps_ret pe_non)) pss_nil)
      (pss_cons (ps_if (PW.pt (pw_and (pt_cmpR op_eq (pe_ix ix_str (pv 0) pe_int (fun _ _ => rfl)) pe_str (nomark _)) (pw_and1 (pt_cmpR op_gt (pe_callB (id := "len") (kx_len (K := K) rfl) (by rfl) T.z_len (by decide +kernel) (pa_cons (pv 0) (pa_nil))) pe_int (nomark _)))))
      (pss_one (ps_ret pe_non)) pss_nil)
      (pss_one (ps_ret (pe_callTy (T := "int") call_intStr (by rfl) T.z_int (by decide +kernel) (pa_cons (pv 0) (pa_nil))))))), ?_⟩
    rcases h with ⟨s, rfl, hl, k⟩ | ⟨x, t, rfl, ht, hk, k⟩
    · walk_at "rdx"
      · have hb : textB s 48 57 30 = true := by assumption
        obtain ⟨hd, h1, h2⟩ := textB_digits hb
        have hz := str_len s
        rcases hcs : s.cps.toList with _ | ⟨c, cs⟩
        · rw [hcs] at hz
          simp at hz
          omega
        · refine q_ixS (c := c) (line_of (by omega)) (by rw [hcs]; exact atI_nat (j := 0) rfl) ?_
          have e0 : ((⟨#[c]⟩ : Str) = Str.ofString "0") ↔ c = 48 := str_one cs_0
          walk_at "rdx"
          · exact R_of (k _ (by assumption)) (by unfold numV; simp_all; omega)
          · refine q_intStr (PySem.intText_digits hd (by simp [hcs]) (by omega)) (by omega) ?_
            exact R_of (k _ (by assumption)) (by unfold numV; rw [if_pos hb, if_neg (by omega)])
          · refine q_intStr (PySem.intText_digits hd (by simp [hcs]) (by omega)) (by omega) ?_
            exact R_of (k _ (by assumption)) (by unfold numV; rw [if_pos hb, if_neg (by simp_all)])
      · exact R_of (k _ (by assumption)) (by unfold numV; simp_all)
    · walk_at "rd"
      exact k
theorem ok_law_is_word (T : Tx K mg) : FnOk P w K mg base CX0 1 T.f_law_is_word T.d_law_is_word ["text"] (sp_law_is_word K) := by
  refine T.F_law_is_word.ok sc_law_is_word (fun vs H Q E h => ?_) (fun cdv A outer s H vs Q E hr h => ?_)
  · rcases h with ⟨s, rfl, hl, k⟩
    all_goals rfl
  · have hu := hu_of hr
    refine ⟨_, (pss_one (ps_ret (pe_and (pe_chain op_le op_le pe_int (pe_callB (id := "len") (kx_len (K := K) rfl) (by rfl) T.z_len (by decide +kernel) (pa_cons (pv 0) (pa_nil))) pe_int) (pe_one (pe_callB (id := "all") (kx_all (K := K) rfl rfl) (by rfl) T.z_all (by decide +kernel) (pa_cons (pe_lc (own := [("sign", 1)]) (g := gName 1) (tt := tYes) rfl sc_law_is_word.nd (pi_str (pv 0)) (blkOk_by (own := [("sign", 1)]) (N := ["text", "sign"]) (sc := defScope s_law_is_word) (by decide +kernel)) (fun _ _ _ _ _ => (pg_name (i := 1) sc_law_is_word.nd rfl (Or.inl rfl))) (fun _ _ _ _ _ => pts_nil) (fun _ _ _ _ _ => (pe_cmpR op_inSign (pv 1) pe_str rfl))) (pa_nil))))))), ?_⟩
    rcases h with ⟨s, rfl, hl, k⟩
    walk_at "rdx"
    · refine lc_signsB (fun c => decide (97 ≤ c) && decide (c ≤ 122)) (by omega) (by assumption) ?_ ?_
      · intro c H2 R s2 hR
        walk_at "rdx"
        exact R_of (hR H2 (Same.refl H2)) (by rw [in_az])
      · intro H' s2 e
        walk_at "rd"
        exact R_of (k H' s2) (by unfold textB; simp_all [List.all_map])
    all_goals exact R_of (k H (Same.refl H)) (by unfold textB; walk_at "sv")
theorem ok_law_number (T : Tx K mg) : FnOk P w K mg base CX0 1 T.f_law_number T.d_law_number ["text"] (sp_law_number K) := by
  refine T.F_law_number.ok sc_law_number (fun vs H Q E h => ?_) (fun cdv A outer s H vs Q E hr h => ?_)
  · rcases h with ⟨s, rfl, hl, k⟩
    all_goals rfl
  · have hu := hu_of hr
    refine ⟨_, (pss_cons (ps_if (PW.pt (pw_or (pt_not (pt_chain op_le op_le pe_int (pe_callB (id := "len") (kx_len (K := K) rfl) (by rfl) T.z_len (by decide +kernel) (pa_cons (pv 0) (pa_nil))) pe_int)) (pw_or1 (pt_not (pt_val (pe_callB (id := "all") (kx_all (K := K) rfl rfl) (by rfl) T.z_all (by decide +kernel) (pa_cons (pe_lc (own := [("sign", 1)]) (g := gName 1) (tt := tYes) rfl sc_law_number.nd (pi_str (pv 0)) (blkOk_by (own := [("sign", 1)]) (N := ["text", "sign"]) (sc := defScope s_law_number) (by decide +kernel)) (fun _ _ _ _ _ => (pg_name (i := 1) sc_law_number.nd rfl (Or.inl rfl))) (fun _ _ _ _ _ => pts_nil) (fun _ _ _ _ _ => (pe_cmpR op_inSign (pv 1) pe_str rfl))) (pa_nil))))))))
      (pss_one (ps_ret pe_non)) pss_nil)
      (pss_cons (ps_if (PW.pt (pw_and (pt_cmpR op_eq (pe_ix ix_str (pv 0) pe_int (fun _ _ => rfl)) pe_str (nomark _)) (pw_and1 (pt_cmpR op_gt (pe_callB (id := "len") (kx_len (K := K) rfl) (by rfl) T.z_len (by decide +kernel) (pa_cons (pv 0) (pa_nil))) pe_int (nomark _)))))
      (pss_one (ps_ret pe_non)) pss_nil)
      (pss_one (ps_ret (pe_callTy (T := "int") call_intStr (by rfl) T.z_int (by decide +kernel) (pa_cons (pv 0) (pa_nil))))))), ?_⟩
    rcases h with ⟨s, rfl, hl, k⟩
    walk_at "rdx"
    · refine lc_signsB (fun c => decide (48 ≤ c) && decide (c ≤ 57)) (by omega) (by assumption) ?_ ?_
      · intro c H2 R s2 hR
        walk_at "rdx"
        exact R_of (hR H2 (Same.refl H2)) (by rw [in_09])
      · intro H' s2 e
        walk_at "rd"
        refine q_ifs (fun ha => ?_) (fun ha => ?_)
        · have hb : textB s 48 57 30 = true := by unfold textB; simp_all [List.all_map]
          obtain ⟨hd, h1, h2⟩ := textB_digits hb
          have hz := str_len s
          rcases hcs : s.cps.toList with _ | ⟨c, cs⟩
          · rw [hcs] at hz
            simp at hz
            omega
          · have e0 : ((⟨#[c]⟩ : Str) = Str.ofString "0") ↔ c = 48 := str_one cs_0
            walk_at "rd"
            refine q_ixS (c := c) (line_of (by omega)) (by rw [hcs]; exact atI_nat (j := 0) rfl) ?_
            walk_at "rdx"
            · exact R_of (k _ s2) (by unfold numV; rw [if_pos hb]; simp_all; omega)
            · refine q_intStr (PySem.intText_digits hd (by simp [hcs]) (by omega)) (by omega) ?_
              exact R_of (k _ s2) (by unfold numV; rw [if_pos hb, if_neg (by omega)])
            · refine q_intStr (PySem.intText_digits hd (by simp [hcs]) (by omega)) (by omega) ?_
              exact R_of (k _ s2) (by unfold numV; rw [if_pos hb, if_neg (by simp_all)])
        · walk_at "rd"
          have hb : textB s 48 57 30 = false := by
            rw [List.all_map] at ha
            unfold textB
            rw [show (s.cps.toList.all fun c => decide (48 ≤ c) && decide (c ≤ 57)) = false from ha, Bool.and_false]
          exact R_of (k _ s2) (by unfold numV; rw [if_neg (by rw [hb]; decide)])
    all_goals (have hb : ¬ textB s 48 57 30 = true := by unfold textB; simp; omega)
    all_goals exact R_of (k H (Same.refl H)) (by unfold numV; rw [if_neg hb])
theorem ok_is_whole (T : Tx K mg) : FnOk P w K mg base CX0 1 T.f_is_whole T.d_is_whole ["thing", "low", "high"] (sp_is_whole K) := by
  refine T.F_is_whole.ok sc_is_whole (fun vs H Q E h => ?_) (fun cdv A outer s H vs Q E hr h => ?_)
  · rcases h with ⟨n, a, rfl, k⟩ | ⟨n, a, b, rfl, k⟩ | ⟨c, y, z, rfl, k⟩ | ⟨x, y, z, t, rfl, ht, hk, k⟩
    all_goals rfl
  · have hu := hu_of hr
    refine ⟨_, (pss_cons (ps_if (PW.pt (pw_or (pt_not (pt_val (pe_callB (id := "isinstance") (kx_isi (K := K) rfl) (by rfl) T.z_isinstance (by decide +kernel) (pa_cons (pv 0) (pa_cons (pe_bltn (v := .ty "int") (u := .type "int") (by rfl) T.z_int (by decide +kernel) rfl) (pa_nil)))))) (pw_or1 (pt_val (pe_callB (id := "isinstance") (kx_isi (K := K) rfl) (by rfl) T.z_isinstance (by decide +kernel) (pa_cons (pv 0) (pa_cons (pe_bltn (v := .ty "bool") (u := .type "bool") (by rfl) T.z_bool (by decide +kernel) rfl) (pa_nil))))))))
      (pss_one (ps_ret pe_bl)) pss_nil)
      (pss_one (ps_ret (pe_and (pe_cmpR op_le (pv 1) (pv 0) (nomark _)) (pe_one (pe_or (pe_cmpR op_isNon (pv 2) pe_non (nomark _)) (pe_one (pe_cmpR op_le (pv 0) (pv 2) (nomark _))))))))), ?_⟩
    rcases h with ⟨n, a, rfl, k⟩ | ⟨n, a, b, rfl, k⟩ | ⟨c, y, z, rfl, k⟩ | ⟨x, y, z, t, rfl, ht, hk, k⟩
    · walk_at "rdx"
      all_goals exact R_of k (by walk_at "sv")
    · walk_at "rdx"
      all_goals exact R_of k (by walk_at "sv")
    · walk_at "rdx"
      exact k
    · walk_at "rdx"
      exact k
theorem ok_law_texts_right (T : Tx K mg) : FnOk P w K mg base CX0 3 T.f_law_texts_right T.d_law_texts_right ["text"] (sp_law_texts_right K) := by
  refine T.F_law_texts_right.ok sc_law_texts_right (fun vs H Q E h => ?_) (fun cdv A outer s H vs Q E hr h => ?_)
  · rcases h with ⟨s, rfl, hl, k⟩
    all_goals rfl
  · have hu := hu_of hr
    refine ⟨_, (pss_cons (ps_if (PW.pt (pw_or (PW.pt (pw_and (pt_cmpR op_notBl (pe_call (ok_is_word T) (hr.mono (by decide)) rfl T.m_is_word T.k_is_word T.b_is_word .nil pass0 (pa_cons (pv 0) (pa_nil))) pe_bl (nomark _)) (pw_and1 (pt_val (pe_call (ok_law_is_word T) (hr.mono (by decide)) rfl T.m_law_is_word T.k_law_is_word T.b_law_is_word .nil pass0 (pa_cons (pv 0) (pa_nil))))))) (pw_or1 (PW.pt (pw_and (pt_cmpR op_notBl (pe_call (ok_is_word T) (hr.mono (by decide)) rfl T.m_is_word T.k_is_word T.b_is_word .nil pass0 (pa_cons (pv 0) (pa_nil))) pe_bl (nomark _)) (pw_and1 (pt_not (pt_val (pe_call (ok_law_is_word T) (hr.mono (by decide)) rfl T.m_law_is_word T.k_law_is_word T.b_law_is_word .nil pass0 (pa_cons (pv 0) (pa_nil)))))))))))
      (pss_one (ps_ret pe_bl)) pss_nil)
      (pss_cons (ps_set (i := 1) sc_law_texts_right.nd rfl (Or.inl rfl) (pe_call (ok_number_in T) (hr.mono (by decide)) rfl T.m_number_in T.k_number_in T.b_number_in .nil pass0 (pa_cons (pv 0) (pa_nil))))
      (pss_cons (ps_set (i := 2) sc_law_texts_right.nd rfl (Or.inl rfl) (pe_call (ok_law_number T) (hr.mono (by decide)) rfl T.m_law_number T.k_law_number T.b_law_number .nil pass0 (pa_cons (pv 0) (pa_nil))))
      (pss_cons (ps_if (pt_cmpR op_isNon (pv 2) pe_non (nomark _))
      (pss_one (ps_ret (pe_cmpR op_isNon (pv 1) pe_non (nomark _)))) pss_nil)
      (pss_one (ps_ret (pe_and (pe_callB (id := "isinstance") (kx_isi (K := K) rfl) (by rfl) T.z_isinstance (by decide +kernel) (pa_cons (pv 1) (pa_cons (pe_bltn (v := .ty "int") (u := .type "int") (by rfl) T.z_int (by decide +kernel) rfl) (pa_nil)))) (pe_and (pe_not (pe_callB (id := "isinstance") (kx_isi (K := K) rfl) (by rfl) T.z_isinstance (by decide +kernel) (pa_cons (pv 1) (pa_cons (pe_bltn (v := .ty "bool") (u := .type "bool") (by rfl) T.z_bool (by decide +kernel) rfl) (pa_nil))))) (pe_one (pe_cmpR op_eq (pv 1) (pv 2) (nomark _))))))))))), ?_⟩
    rcases h with ⟨s, rfl, hl, k⟩
    have hn := numV_cases s
    walk_at "rdx"
    all_goals try (exfalso; simp_all; done)
    all_goals (rcases hn with hn | ⟨n, hn⟩ <;> simp only [hn] <;> walk_at "rdx")
    all_goals exact R_of (k _ (by walk_at "sm")) (by walk_at "sv")
theorem ok_law_spoilt (T : Tx K mg) : FnOk P w K mg base CX0 1 T.f_law_spoilt T.d_law_spoilt ["text", "way", "place", "sign"] (sp_law_spoilt ) := by
  refine T.F_law_spoilt.ok sc_law_spoilt (fun vs H Q E h => ?_) (fun cdv A outer s H vs Q E hr h => ?_)
  · rcases h with ⟨s, g, n, m, rfl, hl, hg, k⟩
    all_goals rfl
  · have hu := hu_of hr
    refine ⟨_, (pss_cons (ps_if (PW.pt (pw_or (pt_cmpR op_eq (pv 1) pe_int (nomark _)) (pw_or1 (pt_cmpR op_eq (pv 0) pe_str (nomark _)))))
      (pss_one (ps_ret (pv 0))) pss_nil)
      (pss_cons (ps_set (i := 4) sc_law_spoilt.nd rfl (Or.inl rfl) (pe_op op_mod (pv 2) (pe_callB (id := "len") (kx_len (K := K) rfl) (by rfl) T.z_len (by decide +kernel) (pa_cons (pv 0) (pa_nil)))))
      (pss_one (ps_ret (pe_op op_addStr (pe_op op_addStr (pe_slice sl_str (pv 0) po_none (po_some (pv 4))) (pv 3)) (pe_slice sl_str (pv 0) (po_some (pe_op op_add (pv 4) pe_int)) po_none)))))), ?_⟩
    rcases h with ⟨s, g, n, m, rfl, hl, hg, k⟩
    walk_at "rdx"
    · exact k s (by omega)
    · exact k s (by omega)
    · have hp := len_pos (by assumption)
      have c1 := cutS_length s none (some (m % (s.length : Int)))
      have c2 := cutS_length s (some (m % (s.length : Int) + 1)) none
      walk_at "rd"
      exact k _ (by walk_at "sd")
theorem ok_law_numbers_right (T : Tx K mg) : FnOk P w K mg base CX0 2 T.f_law_numbers_right T.d_law_numbers_right ["pool"] (sp_law_numbers_right K) := by
  refine T.F_law_numbers_right.ok sc_law_numbers_right (fun vs H Q E h => ?_) (fun cdv A outer s H vs Q E hr h => ?_)
  · rcases h with ⟨p, n, rfl, hp, hn, k⟩
    all_goals rfl
  · have hu := hu_of hr
    refine ⟨_, (pss_cons (ps_set (i := 1) sc_law_numbers_right.nd rfl (Or.inl rfl) (pe_call (ok_law_take T) (hr.mono (by decide)) rfl T.m_law_take T.k_law_take T.b_law_take .nil pass0 (pa_cons (pv 0) (pa_cons (pe_ix (ki_list (K := K) rfl) (pe_lst (pa_cons pe_int (pa_cons pe_int (pa_cons pe_int (pa_cons (pe_op op_pow pe_int pe_int) (pa_nil)))))) (pe_call (ok_law_take T) (hr.mono (by decide)) rfl T.m_law_take T.k_law_take T.b_law_take .nil pass0 (pa_cons (pv 0) (pa_cons pe_int (pa_nil)))) (fun _ _ => rfl)) (pa_nil)))))
      (pss_cons (ps_if (pt_cmpR op_eq (pe_call (ok_law_take T) (hr.mono (by decide)) rfl T.m_law_take T.k_law_take T.b_law_take .nil pass0 (pa_cons (pv 0) (pa_cons pe_int (pa_nil)))) pe_int (nomark _))
      (pss_one (ps_set (i := 1) sc_law_numbers_right.nd rfl (Or.inl rfl) (pe_un un_neg (pv 1)))) pss_nil)
      (pss_cons (ps_set (i := 2) sc_law_numbers_right.nd rfl (Or.inl rfl) (pe_op op_add (pv 1) (pe_ix (ki_list (K := K) rfl) (pe_lst (pa_cons (pe_un un_neg pe_int) (pa_cons pe_int (pa_cons pe_int (pa_cons (pe_un un_neg (pe_op op_pow pe_int pe_int)) (pa_cons (pe_op op_pow pe_int pe_int) (pa_nil))))))) (pe_call (ok_law_take T) (hr.mono (by decide)) rfl T.m_law_take T.k_law_take T.b_law_take .nil pass0 (pa_cons (pv 0) (pa_cons pe_int (pa_nil)))) (fun _ _ => rfl))))
      (pss_cons (ps_set (i := 3) sc_law_numbers_right.nd rfl (Or.inl rfl) (pe_op op_add (pv 1) (pe_ix (ki_list (K := K) rfl) (pe_lst (pa_cons pe_int (pa_cons (pe_un un_neg pe_int) (pa_cons pe_int (pa_cons (pe_un un_neg (pe_op op_pow pe_int pe_int)) (pa_cons (pe_op op_pow pe_int pe_int) (pa_nil))))))) (pe_call (ok_law_take T) (hr.mono (by decide)) rfl T.m_law_take T.k_law_take T.b_law_take .nil pass0 (pa_cons (pv 0) (pa_cons pe_int (pa_nil)))) (fun _ _ => rfl))))
      (pss_cons (ps_set (i := 2) sc_law_numbers_right.nd rfl (Or.inl rfl) (pe_callB (id := "max") (call_maxA rfl) (by rfl) T.z_max (by decide +kernel) (pa_cons (pe_op op_sub pe_int (pe_op op_pow pe_int pe_int)) (pa_cons (pe_callB (id := "min") (call_minA rfl) (by rfl) T.z_min (by decide +kernel) (pa_cons (pe_op op_sub (pe_op op_pow pe_int pe_int) pe_int) (pa_cons (pv 2) (pa_nil)))) (pa_nil)))))
      (pss_cons (ps_set (i := 3) sc_law_numbers_right.nd rfl (Or.inl rfl) (pe_callB (id := "max") (call_maxA rfl) (by rfl) T.z_max (by decide +kernel) (pa_cons (pe_op op_sub pe_int (pe_op op_pow pe_int pe_int)) (pa_cons (pe_callB (id := "min") (call_minA rfl) (by rfl) T.z_min (by decide +kernel) (pa_cons (pe_op op_sub (pe_op op_pow pe_int pe_int) pe_int) (pa_cons (pv 3) (pa_nil)))) (pa_nil)))))
      (pss_cons (ps_set (i := 4) sc_law_numbers_right.nd rfl (Or.inl rfl) (pe_cmpR op_le (pv 2) (pv 1) (nomark _)))
      (pss_cons (ps_if (PW.pt (pw_or (PW.pt (pw_and (pt_cmpR op_notBl (pe_call (ok_is_whole T) (hr.mono (by decide)) rfl T.m_is_whole T.k_is_whole T.b_is_whole_2 T.v_is_whole_2 pass0 (pa_cons (pv 1) (pa_cons (pv 2) (pa_nil)))) pe_bl (nomark _)) (pw_and1 (pt_val (pv 4))))) (pw_or1 (PW.pt (pw_and (pt_cmpR op_notBl (pe_call (ok_is_whole T) (hr.mono (by decide)) rfl T.m_is_whole T.k_is_whole T.b_is_whole_2 T.v_is_whole_2 pass0 (pa_cons (pv 1) (pa_cons (pv 2) (pa_nil)))) pe_bl (nomark _)) (pw_and1 (pt_not (pt_val (pv 4)))))))))
      (pss_one (ps_ret pe_bl)) pss_nil)
      (pss_cons (ps_set (i := 5) sc_law_numbers_right.nd rfl (Or.inl rfl) (pe_lst (pa_cons (pe_call (ok_is_whole T) (hr.mono (by decide)) rfl T.m_is_whole T.k_is_whole T.b_is_whole .nil pass0 (pa_cons (pv 1) (pa_cons (pv 2) (pa_cons pe_non (pa_nil))))) (pa_cons (pe_call (ok_is_whole T) (hr.mono (by decide)) rfl T.m_is_whole T.k_is_whole T.b_is_whole .nil pass0 (pa_cons (pv 1) (pa_cons (pv 2) (pa_cons (pv 3) (pa_nil))))) (pa_cons (pe_callN (ok_is_whole T) (hr.mono (by decide)) rfl T.m_is_whole T.k_is_whole T.kb_is_whole_1_low_high pass0 (pa_cons (pv 1) (pa_nil)) (pk_cons (pv 2) (pk_cons (pv 3) pk_nil))) (pa_nil))))))
      (pss_cons (ps_set (i := 6) sc_law_numbers_right.nd rfl (Or.inl rfl) (pe_and (pv 4) (pe_one (pe_cmpR op_le (pv 1) (pv 3) (nomark _)))))
      (pss_one (ps_ret (pe_and (pe_cmpR (ko_eqD (K := K) rfl hr.units) (pv 5) (pe_lst (pa_cons (pv 4) (pa_cons (pv 6) (pa_cons (pv 6) (pa_nil))))) (nomark _)) (pe_one (pe_callB (id := "all") (kx_all (K := K) rfl rfl) (by rfl) T.z_all (by decide +kernel) (pa_cons (pe_lc (own := [("answer", 7)]) (g := gName 7) (tt := tYes) rfl sc_law_numbers_right.nd (kpi_list (K := K) rfl (pv 5)) (blkOk_by (own := [("answer", 7)]) (N := ["pool", "number", "lower", "upper", "due", "told", "within", "answer"]) (sc := defScope s_law_numbers_right) (by decide +kernel)) (fun _ _ _ _ _ => (pg_name (i := 7) sc_law_numbers_right.nd rfl (Or.inl rfl))) (fun _ _ _ _ _ => pts_nil) (fun _ _ _ _ _ => (pe_callB (id := "isinstance") (kx_isi (K := K) rfl) (by rfl) T.z_isinstance (by decide +kernel) (pa_cons (pv 7) (pa_cons (pe_bltn (v := .ty "bool") (u := .type "bool") (by rfl) T.z_bool (by decide +kernel) rfl) (pa_nil)))))) (pa_nil))))))))))))))))), ?_⟩
    rcases h with ⟨p, n, rfl, hp, hn, k⟩
    walk_at "rd"
    obtain ⟨m1, h1, h2, h3⟩ := at_ints [3, 10, 1000, 10 ^ Int.toNat 30] (fun x => 0 < x ∧ x ≤ 10 ^ 30) (i := n % 4) (by decide +kernel) (by omega) (by show n % 4 < 4; omega)
    refine q_ixL (by walk_at "sq") h1 ?_
    have hx : 0 ≤ n / 4 / m1 := Int.ediv_nonneg (by omega) (by omega)
    walk_at "rd"
    generalize n / 4 / m1 = n2 at *
    generalize n / 4 % m1 = v1 at *
    refine q_ifx (fun _ => ?_) (fun _ => ?_)
    all_goals walk_at "rd"
    all_goals (obtain ⟨m2, h4, -⟩ := at_ints [-1, 0, 1, -10 ^ Int.toNat 20, 10 ^ Int.toNat 20] (fun x => True) (i := n2 / 2 % 5) (fun _ _ => trivial) (by omega) (by show n2 / 2 % 5 < 5; omega))
    all_goals refine q_ixL (by walk_at "sq") h4 ?_
    all_goals walk_at "rd"
    all_goals (obtain ⟨m3, h5, -⟩ := at_ints [0, -1, 1, -10 ^ Int.toNat 20, 10 ^ Int.toNat 20] (fun x => True) (i := n2 / 2 / 5 % 5) (fun _ _ => trivial) (by omega) (by show n2 / 2 / 5 % 5 < 5; omega))
    all_goals refine q_ixL (by walk_at "sq") h5 ?_
    all_goals refine abs_q (fun H9 => H9 p = some (.lst [.int (n2 / 2 / 5 / 5)]) ∧ Fr1 p H H9) ⟨by walk_at "lk", fun b o hb e => by walk_at "lk"⟩ ?_
    all_goals rintro H9 ⟨f1, f2⟩
    all_goals walk_at "rdx"
    all_goals refine lc_itemsB (fun _ => true) (by walk_at "sq") (by simp) (by assumption) (fun x hx H2 R s2 hR => ?_) (fun H' s2 e => ?_)
    all_goals (try (obtain ⟨b, rfl⟩ : ∃ b, x = V.bl b := by simp at hx; rcases hx with rfl | rfl | rfl <;> exact ⟨_, rfl⟩))
    all_goals walk_at "rd"
    all_goals first | exact hR _ (Same.refl _) | exact R_of (k _ (n2 / 2 / 5 / 5) (by omega) (by walk_at "lk") (fun b o hb e => by walk_at "lk")) (by simp)
theorem ok_is_list (T : Tx K mg) : FnOk P w K mg base CX0 1 T.f_is_list T.d_is_list ["thing"] (sp_is_list K) := by
  refine T.F_is_list.ok sc_is_list (fun vs H Q E h => ?_) (fun cdv A outer s H vs Q E hr h => ?_)
  · rcases h with ⟨x, t, b, rfl, ht, hk, k⟩
    all_goals rfl
  · have hu := hu_of hr
    refine ⟨_, (pss_one (ps_ret (pe_callB (id := "isinstance") (kx_isiT (K := K) rfl) (by rfl) T.z_isinstance (by decide +kernel) (pa_cons (pv 0) (pa_cons (pe_tup (pa_cons (pe_bltn (v := .ty "list") (u := .type "list") (by rfl) T.z_list (by decide +kernel) rfl) (pa_cons (pe_bltn (v := .ty "tuple") (u := .type "tuple") (by rfl) T.z_tuple (by decide +kernel) rfl) (pa_nil)))) (pa_nil)))))), ?_⟩
    rcases h with ⟨x, t, b, rfl, ht, hk, k⟩
    (repeat walk_at "rd0")
    intro q hq
    with_reducible refine q_nil ?_
    refine q_isiT (us := [.type "list", .type "tuple"]) upd_same (.cons (.ty _) (.cons (.ty _) .nil)) (TyX.mono ht (Same.snew (Same.refl H) hq)) hk ?_
    exact k _ (Same.snew (Same.refl H) hq)
theorem ok_Counts_init (T : Tx K mg) : FnOk P w K mg base CX0 3 T.f_Counts_init T.d_Counts_init ["self", "numbers"] (sp_Counts_init K T.C_Counts) := by
  refine T.F_Counts_init.ok sc_Counts_init (fun vs H Q E h => ?_) (fun cdv A outer s H vs Q E hr h => ?_)
  · rcases h with ⟨p, dx, a, xs, rfl, hp, ha, hl, hl2, hn, k⟩
    all_goals rfl
  · have hu := hu_of hr
    refine ⟨_, (pss_cons (ps_if (PW.pt (pw_or (pt_not (pt_val (pe_call (ok_is_list T) (hr.mono (by decide)) rfl T.m_is_list T.k_is_list T.b_is_list .nil pass0 (pa_cons (pv 1) (pa_nil))))) (pw_or1 (pt_not (pt_chain op_le op_le (pe_glob (v := .int 2) rfl T.g_LEAST_MEMBERS ⟨_, rfl⟩) (pe_callB (id := "len") (kx_len (K := K) rfl) (by rfl) T.z_len (by decide +kernel) (pa_cons (pv 1) (pa_nil))) (pe_glob (v := .int 5) rfl T.g_MOST_MEMBERS ⟨_, rfl⟩))))))
      (pss_one ps_never) pss_nil)
      (pss_cons (ps_if (pt_not (pt_val (pe_callB (id := "all") (kx_all (K := K) rfl rfl) (by rfl) T.z_all (by decide +kernel) (pa_cons (pe_lc (own := [("number", 2)]) (g := gName 2) (tt := tYes) rfl sc_Counts_init.nd (kpi_list (K := K) rfl (pv 1)) (blkOk_by (own := [("number", 2)]) (N := ["self", "numbers", "number"]) (sc := defScope s_Counts_init) (by decide +kernel)) (fun _ _ _ _ _ => (pg_name (i := 2) sc_Counts_init.nd rfl (Or.inl rfl))) (fun _ _ _ _ _ => pts_nil) (fun _ _ _ _ _ => (pe_call (ok_is_whole T) (hr.mono (by decide)) rfl T.m_is_whole T.k_is_whole T.b_is_whole_2 T.v_is_whole_2 pass0 (pa_cons (pv 2) (pa_cons pe_int (pa_nil)))))) (pa_nil)))))
      (pss_one ps_never) pss_nil)
      (pss_one (ps_fld (pv 0) (pe_callTy (T := "tuple") (kx_tuple (K := K) rfl) (by rfl) T.z_tuple (by decide +kernel) (pa_cons (pv 1) (pa_nil))) rfl)))), ?_⟩
    rcases h with ⟨p, dx, a, xs, rfl, hp, ha, hl, hl2, hn, k⟩
    walk_at "rdx"
    refine lc_itemsB (fun _ => true) (by walk_at "sq") (by omega) (by assumption) (fun x hx H2 R s2 hR => ?_) (fun H2 s2 e => ?_)
    · obtain ⟨n, rfl, h0⟩ := hn x hx
      walk_at "rd"
      exact R_of (hR H2 (Same.refl H2)) (by rw [decide_eq_true h0])
    · walk_at "rd"
      refine q_ifs (fun _ => ?_) (fun hf => absurd hf (by simp))
      walk_at "rd"
      exact k _ _ (fun b o hb e => by walk_at "lk") upd_same (by walk_at "lk")
theorem ok_law_things (T : Tx K mg) : FnOk P w K mg base CX0 5 T.f_law_things T.d_law_things [] (sp_law_things K) := by
  refine T.F_law_things.ok sc_law_things (fun vs H Q E h => ?_) (fun cdv A outer s H vs Q E hr h => ?_)
  · rcases h with ⟨u, rfl, k⟩
    all_goals rfl
  · have hu := hu_of hr
    refine ⟨_, (pss_cons (ps_for PassesOwn.never rfl (kpi_list (K := K) rfl (pe_lst (pa_cons pe_non (pa_cons pe_bl (pa_cons pe_bl (pa_cons (pe_lst pa_nil) (pa_cons (pe_tup pa_nil) (pa_cons pe_dnewK (pa_cons (pe_lst (pa_cons pe_str (pa_nil))) (pa_cons (pe_tup (pa_cons pe_str (pa_cons pe_int (pa_nil)))) (pa_cons (pe_lst (pa_cons pe_int (pa_nil))) (pa_cons (pe_make T.mk_Counts (ok_Counts_init T) (hr.mono (by decide)) rfl T.g_Counts T.b_Counts_init .nil pass0 (pa_cons (pe_lst (pa_cons pe_int (pa_cons pe_int (pa_nil)))) (pa_nil))) (pa_cons (pe_disp (pps_cons pe_str pe_int pps_nil) (by rfl) (by rfl) (fun z => by cases z) (by decide)) (pa_cons (pe_lst (pa_cons (pe_lst (pa_cons pe_int (pa_nil))) (pa_nil))) (pa_nil))))))))))))))) (pg_name (i := 0) sc_law_things.nd rfl (Or.inl rfl))
      (pss_cons (ps_if (PW.pt (pw_or (pt_cmpR op_notBl (pe_call (ok_is_word T) (hr.mono (by decide)) rfl T.m_is_word T.k_is_word T.b_is_word .nil pass0 (pa_cons (pv 0) (pa_nil))) pe_bl (nomark _)) (pw_or1 (pt_cmpR op_notNon (pe_call (ok_number_in T) (hr.mono (by decide)) rfl T.m_number_in T.k_number_in T.b_number_in .nil pass0 (pa_cons (pv 0) (pa_nil))) pe_non (nomark _)))))
      (pss_one (ps_ret pe_bl)) pss_nil)
      (pss_cons (ps_if (PW.pt (pw_or (pt_cmpR op_notBl (pe_call (ok_is_whole T) (hr.mono (by decide)) rfl T.m_is_whole T.k_is_whole T.b_is_whole_2 T.v_is_whole_2 pass0 (pa_cons (pv 0) (pa_cons pe_int (pa_nil)))) pe_bl (nomark _)) (pw_or1 (pt_cmpR op_notBl (pe_call (ok_is_whole T) (hr.mono (by decide)) rfl T.m_is_whole T.k_is_whole T.b_is_whole .nil pass0 (pa_cons (pv 0) (pa_cons pe_int (pa_cons pe_int (pa_nil))))) pe_bl (nomark _)))))
      (pss_one (ps_ret pe_bl)) pss_nil)
      (pss_one (ps_if (pt_cmpR op_notBl (pe_call (ok_is_whole T) (hr.mono (by decide)) rfl T.m_is_whole T.k_is_whole T.b_is_whole .nil pass0 (pa_cons (pv 0) (pa_cons (pe_un un_neg pe_int) (pa_cons pe_non (pa_nil))))) pe_bl (nomark _))
      (pss_one (ps_ret pe_bl)) pss_nil)))))
      (pss_cons (ps_if (PW.pt (pw_or (pt_cmpR op_notBl (pe_call (ok_is_whole T) (hr.mono (by decide)) rfl T.m_is_whole T.k_is_whole T.b_is_whole_2 T.v_is_whole_2 pass0 (pa_cons pe_str (pa_cons pe_int (pa_nil)))) pe_bl (nomark _)) (pw_or1 (pt_cmpR op_notBl (pe_call (ok_is_whole T) (hr.mono (by decide)) rfl T.m_is_whole T.k_is_whole T.b_is_whole .nil pass0 (pa_cons pe_str (pa_cons pe_int (pa_cons pe_int (pa_nil))))) pe_bl (nomark _)))))
      (pss_one (ps_ret pe_bl)) pss_nil)
      (pss_one (ps_ret (pe_and (pe_cmpR op_isBl (pe_call (ok_is_word T) (hr.mono (by decide)) rfl T.m_is_word T.k_is_word T.b_is_word .nil pass0 (pa_cons pe_int (pa_nil))) pe_bl (nomark _)) (pe_and (pe_cmpR op_isNon (pe_call (ok_number_in T) (hr.mono (by decide)) rfl T.m_number_in T.k_number_in T.b_number_in .nil pass0 (pa_cons pe_int (pa_nil))) pe_non (nomark _)) (pe_one (pe_cmpR op_isNon (pe_call (ok_number_in T) (hr.mono (by decide)) rfl T.m_number_in T.k_number_in T.b_number_in .nil pass0 (pa_cons pe_int (pa_nil))) pe_non (nomark _))))))))), ?_⟩
    rcases h with ⟨u, rfl, k⟩
    walk_at "rd"
    refine q_kvs [(.inr "a", .int 1)] (by walk_at "lk") rfl (by decide) ?_
    walk_at "rd"
    rename_i p10 a16 p9 a15 p8 a14 p7 a13 p6 a12 p5 a11 p4 a10 x dx a9 a8 a7 t H' a6 a5 a4 p3 a3 p2 a2 p1 a1 p0 a0
    have h10 : H' p10 = some (.lst []) := by walk_at "lk"
    have h9 : H' p9 = some (.tup []) := by walk_at "lk"
    have h8 : H' p8 = some (.dK []) := by walk_at "lk"
    have h7 : H' p7 = some (.lst [.str "a"]) := by walk_at "lk"
    have h6 : H' p6 = some (.tup [.str "a", .int 1]) := by walk_at "lk"
    have h5 : H' p5 = some (.lst [.int 1]) := by walk_at "lk"
    refine' for_growF (xs := [V.non, V.bl true, V.bl false, V.ref p10, V.ref p9, V.ref p8, V.ref p7, V.ref p6, V.ref p5, V.ref x, V.ref p3, V.ref p1]) (fun H9 => H9 p10 = some (.lst []) ∧ H9 p9 = some (.tup []) ∧ H9 p8 = some (.dK []) ∧ H9 p7 = some (.lst [.str "a"]) ∧ H9 p6 = some (.tup [.str "a", .int 1]) ∧ H9 p5 = some (.lst [.int 1]) ∧ H9 x = some (.ins T.C_Counts dx [("_numbers", .ref t)]) ∧ H9 p3 = some (.dK (mergeK [] [(Sum.inr (Str.ofString "a"), V.int 1)])) ∧ H9 p1 = some (.lst [.ref p2]) ∧ H9 p0 = some (.lst [V.non, V.bl true, V.bl false, V.ref p10, V.ref p9, V.ref p8, V.ref p7, V.ref p6, V.ref p5, V.ref x, V.ref p3, V.ref p1])) ?hF ?hl rfl ?hb ?hd
    case hl =>
      rintro H1 ⟨_, _, _, _, _, _, _, _, _, h⟩
      exact SqL.of h
    case hd =>
      intro v H' s2
      walk_at "rdn"
      exact k _
    case hb =>
      clear a0 a1 a2 a3 a4 a5 a6 a7 a8 a9 a10 a11 a12 a13 a14 a15 a16
      intro z hz H2 s2 N hN
      have s2' := s2
      obtain ⟨f1, f2, f3, f4, f5, f6, f7, f8, f9, f10⟩ := s2
      have tx : TyX K H2 (.ref x) (.ref T.C_Counts) := .base (.ins f7 T.c_Counts T.ha_Counts T.hn T.htk T.hm_Counts)
      have tk1 : PySem.W.kitOne K (.ref T.C_Counts) (.type "str") = some false := kit_sub (by decide +kernel) T.ks_Counts
      have tk2 : PySem.W.kitOne K (.ref T.C_Counts) (.type "int") = some false := kit_sub (by decide +kernel) T.ki_Counts
      simp only [List.mem_cons, List.not_mem_nil, or_false] at hz
      rcases hz with rfl | rfl | rfl | rfl | rfl | rfl | rfl | rfl | rfl | rfl | rfl | rfl
      all_goals walk_at "rdn"
      all_goals exact hN _ s2'
    case hF => refine ⟨?_, ?_, ?_, ?_, ?_, ?_, ?_, ?_, ?_, ?_⟩ <;> walk_at "lk"
theorem ok_law (T : Tx K mg) : FnOk P w K mg base CX0 6 T.f_law T.d_law ["script"] (sp_law K) := by
  refine T.F_law.ok sc_law (fun vs H Q E h => ?_) (fun cdv A outer s H vs Q E hr h => ?_)
  · rcases h with ⟨a, ns, rfl, hs, hl, k⟩
    all_goals rfl
  · have hu := hu_of hr
    refine ⟨_, (pss_cons (ps_for PassesOwn.never rfl (kpi_list (K := K) rfl (pe_op op_cat (pe_slice (ks_list (K := K) rfl) (pv 0) po_none (po_some pe_int)) (pe_lst (pa_cons pe_int (pa_nil))))) (pg_name (i := 1) sc_law.nd rfl (Or.inl rfl))
      (pss_cons (ps_set (i := 2) sc_law.nd rfl (Or.inl rfl) (pe_call (ok_law_pool T) (hr.mono (by decide)) rfl T.m_law_pool T.k_law_pool T.b_law_pool .nil pass0 (pa_cons (pv 1) (pa_nil))))
      (pss_cons (ps_set (i := 3) sc_law.nd rfl (Or.inl rfl) (pe_lst (pa_cons (pe_call (ok_law_take T) (hr.mono (by decide)) rfl T.m_law_take T.k_law_take T.b_law_take .nil pass0 (pa_cons (pv 2) (pa_cons pe_int (pa_nil)))) (pa_cons (pe_call (ok_law_take T) (hr.mono (by decide)) rfl T.m_law_take T.k_law_take T.b_law_take .nil pass0 (pa_cons (pv 2) (pa_cons pe_int (pa_nil)))) (pa_cons (pe_call (ok_law_take T) (hr.mono (by decide)) rfl T.m_law_take T.k_law_take T.b_law_take .nil pass0 (pa_cons (pv 2) (pa_cons pe_int (pa_nil)))) (pa_nil))))))
      (pss_cons (ps_set (i := 4) sc_law.nd rfl (Or.inl rfl) (pe_lst (pa_cons (pe_call (ok_law_take T) (hr.mono (by decide)) rfl T.m_law_take T.k_law_take T.b_law_take .nil pass0 (pa_cons (pv 2) (pa_cons pe_int (pa_nil)))) (pa_cons (pe_call (ok_law_take T) (hr.mono (by decide)) rfl T.m_law_take T.k_law_take T.b_law_take .nil pass0 (pa_cons (pv 2) (pa_cons pe_int (pa_nil)))) (pa_nil)))))
      (pss_cons (ps_set (i := 5) sc_law.nd rfl (Or.inl rfl) (pe_lst (pa_cons (pe_call (ok_law_sign T) (hr.mono (by decide)) rfl T.m_law_sign T.k_law_sign T.b_law_sign .nil pass0 (pa_cons (pv 2) (pa_nil))) (pa_cons (pe_call (ok_law_sign T) (hr.mono (by decide)) rfl T.m_law_sign T.k_law_sign T.b_law_sign .nil pass0 (pa_cons (pv 2) (pa_nil))) (pa_nil)))))
      (pss_cons (ps_if (pt_not (pt_val (pe_call (ok_law_numbers_right T) (hr.mono (by decide)) rfl T.m_law_numbers_right T.k_law_numbers_right T.b_law_numbers_right .nil pass0 (pa_cons (pv 2) (pa_nil)))))
      (pss_one (ps_ret pe_bl)) pss_nil)
      (pss_cons (ps_set (i := 6) sc_law.nd rfl (Or.inl rfl) pe_str)
      (pss_cons (ps_for PassesOwn.never rfl (pi_range1 rfl T.z_range (pa_cons (pe_call (ok_law_take T) (hr.mono (by decide)) rfl T.m_law_take T.k_law_take T.b_law_take .nil pass0 (pa_cons (pv 2) (pa_cons pe_int (pa_nil)))) (pa_nil))) (pg_name (i := 7) sc_law.nd rfl (Or.inl rfl))
      (pss_one (ps_set (i := 6) sc_law.nd rfl (Or.inl rfl) (pe_op op_addStr (pv 6) (pe_ix ix_str pe_str (pe_call (ok_law_take T) (hr.mono (by decide)) rfl T.m_law_take T.k_law_take T.b_law_take .nil pass0 (pa_cons (pv 2) (pa_cons pe_int (pa_nil)))) (fun _ _ => rfl))))))
      (pss_cons (ps_set (i := 8) sc_law.nd rfl (Or.inl rfl) (pe_ix (ki_list (K := K) rfl) (pe_lst (pa_cons pe_str (pa_cons pe_str (pa_cons pe_str (pa_nil))))) (pe_ix (ki_list (K := K) rfl) (pv 3) pe_int (fun _ _ => rfl)) (fun _ _ => rfl)))
      (pss_cons (ps_for PassesOwn.never rfl (pi_range1 rfl T.z_range (pa_cons (pe_ix (ki_list (K := K) rfl) (pe_lst (pa_cons (pe_call (ok_law_take T) (hr.mono (by decide)) rfl T.m_law_take T.k_law_take T.b_law_take .nil pass0 (pa_cons (pv 2) (pa_cons pe_int (pa_nil)))) (pa_cons (pe_op op_sub pe_int (pe_ix (ki_list (K := K) rfl) (pv 3) pe_int (fun _ _ => rfl))) (pa_cons (pe_op op_sub pe_int (pe_ix (ki_list (K := K) rfl) (pv 3) pe_int (fun _ _ => rfl))) (pa_cons (pe_call (ok_law_take T) (hr.mono (by decide)) rfl T.m_law_take T.k_law_take T.b_law_take .nil pass0 (pa_cons (pv 2) (pa_cons pe_int (pa_nil)))) (pa_nil)))))) (pe_ix (ki_list (K := K) rfl) (pv 3) pe_int (fun _ _ => rfl)) (fun _ _ => rfl)) (pa_nil))) (pg_name (i := 7) sc_law.nd rfl (Or.inl rfl))
      (pss_one (ps_set (i := 8) sc_law.nd rfl (Or.inl rfl) (pe_op op_addStr (pv 8) (pe_ix ix_str pe_str (pe_call (ok_law_take T) (hr.mono (by decide)) rfl T.m_law_take T.k_law_take T.b_law_take .nil pass0 (pa_cons (pv 2) (pa_cons pe_int (pa_nil)))) (fun _ _ => rfl))))))
      (pss_cons (ps_for PassesOwn.never rfl (kpi_list (K := K) rfl (pe_lst (pa_cons (pv 6) (pa_cons (pv 8) (pa_cons (pe_call (ok_law_spoilt T) (hr.mono (by decide)) rfl T.m_law_spoilt T.k_law_spoilt T.b_law_spoilt .nil pass0 (pa_cons (pv 6) (pa_cons (pe_ix (ki_list (K := K) rfl) (pv 3) pe_int (fun _ _ => rfl)) (pa_cons (pe_ix (ki_list (K := K) rfl) (pv 4) pe_int (fun _ _ => rfl)) (pa_cons (pe_ix (ki_list (K := K) rfl) (pv 5) pe_int (fun _ _ => rfl)) (pa_nil)))))) (pa_cons pe_str (pa_cons (pe_op op_addStr (pv 6) pe_str) (pa_nil)))))))) (pg_name (i := 9) sc_law.nd rfl (Or.inl rfl))
      (pss_one (ps_if (pt_not (pt_val (pe_call (ok_law_texts_right T) (hr.mono (by decide)) rfl T.m_law_texts_right T.k_law_texts_right T.b_law_texts_right .nil pass0 (pa_cons (pv 9) (pa_nil)))))
      (pss_one (ps_ret pe_bl)) pss_nil)))
      (pss_one (ps_if (pt_not (pt_val (pe_call (ok_law_texts_right T) (hr.mono (by decide)) rfl T.m_law_texts_right T.k_law_texts_right T.b_law_texts_right .nil pass0 (pa_cons (pe_call (ok_law_spoilt T) (hr.mono (by decide)) rfl T.m_law_spoilt T.k_law_spoilt T.b_law_spoilt .nil pass0 (pa_cons (pv 8) (pa_cons (pe_ix (ki_list (K := K) rfl) (pv 3) pe_int (fun _ _ => rfl)) (pa_cons (pe_ix (ki_list (K := K) rfl) (pv 4) pe_int (fun _ _ => rfl)) (pa_cons (pe_ix (ki_list (K := K) rfl) (pv 5) pe_int (fun _ _ => rfl)) (pa_nil)))))) (pa_nil)))))
      (pss_one (ps_ret pe_bl)) pss_nil)))))))))))))
      (pss_one (ps_ret (pe_call0 (ok_law_things T) (hr.mono (by decide)) rfl T.m_law_things T.k_law_things T.b_law_things .nil pass0)))), ?_⟩
    rcases h with ⟨a, ns, rfl, hs, hl, k⟩
    have hz : (ns.map V.int).length = ns.length := List.length_map ..
    have hc := cutV_length (ns.map V.int) none (some 40)
    walk_at "rdn"
    intro d hd
    walk_at "rdn"
    intro e he
    have hde : d ≠ e := by walk_at "ne"
    refine q_cat (xs := cutV (ns.map V.int) none (some 40)) (ys := [V.int 6]) (by walk_at "lk") (by walk_at "lk") (line_of (by simp only [List.length_cons, List.length_nil]; omega)) ?_
    intro g hg
    refine q_iListb (xs := cutV (ns.map V.int) none (some 40) ++ [V.int 6]) (by walk_at "sq") ?_
    refine for_list (K := K) (a := g) (xs := cutV (ns.map V.int) none (some 40) ++ [V.int 6]) (fun i σ H' => ∃ (c1 c2 c3 c4 c5 c6 c7 c8 c9 : Option V), σ = [some (.ref a), c1, c2, c3, c4, c5, c6, c7, c8, c9] ∧ H' g = some (.lst (cutV (ns.map V.int) none (some 40) ++ [V.int 6]))) ⟨none, none, none, none, none, none, none, none, none, rfl, upd_same⟩ (fun i σ H' _ h => by obtain ⟨_, _, _, _, _, _, _, _, _, _, h⟩ := h; exact SqL.of h) ?_ ?_
    · rintro i x σ H1 hx ⟨c1, c2, c3, c4, c5, c6, c7, c8, c9, rfl, h1⟩
      obtain ⟨cell, rfl⟩ : ∃ n, x = V.int n := by
        rcases List.mem_append.mp (List.mem_of_getElem? hx) with h | h
        · obtain ⟨n, _, rfl⟩ := List.mem_map.mp (cutV_mem h)
          exact ⟨n, rfl⟩
        · exact ⟨6, by simpa using h⟩
      walk_at "rdn"
      intro p n hp hn
      walk_at "rdn"
      intro wA hwA
      walk_at "rdn"
      intro pA hpA
      walk_at "rdn"
      intro g1
      walk_at "rdn"
      intro g2
      walk_at "rdn"
      intro sA hsA
      have npw : p ≠ wA := by walk_at "ne"
      have npp : p ≠ pA := by walk_at "ne"
      have nps : p ≠ sA := by walk_at "ne"
      refine abs_q (fun H9 => ∃ m w1 w2 w3 q1 q2 : Int, 0 ≤ m ∧ (0 ≤ w1 ∧ w1 < 2) ∧ (0 ≤ w2 ∧ w2 < 4) ∧ (0 ≤ w3 ∧ w3 < 3) ∧ H9 p = some (.lst [.int m]) ∧ H9 wA = some (.lst [.int w1, .int w2, .int w3]) ∧ H9 pA = some (.lst [.int q1, .int q2]) ∧ H9 sA = some (.lst [.str ⟨#[g1]⟩, .str ⟨#[g2]⟩]) ∧ H9 g = some (.lst (cutV (ns.map V.int) none (some 40) ++ [V.int 6]))) ?hF ?_
      case hF =>
        refine ⟨n / 2 / 4 / 3 / 9 / 31 / 95 / 95, n % 2, n / 2 % 4, n / 2 / 4 % 3, n / 2 / 4 / 3 % 9, n / 2 / 4 / 3 / 9 % 31, by omega, by omega, by omega, by omega, ?_, ?_, ?_, ?_, ?_⟩
        all_goals walk_at "lk"
      have nwp : wA ≠ p := npw.symm
      have npp' : pA ≠ p := npp.symm
      have nps' : sA ≠ p := nps.symm
      have ngp : g ≠ p := by walk_at "ne"
      clear hsA hpA hwA hn hx hc hg he
      rintro H9 ⟨m, w1, w2, w3, q1, q2, hm, hw1, hw2, hw3, f1, f2, f3, f4, f5⟩
      walk_at "rdn"
      intro H2 m2 hm2 h2 fr2
      walk_at "rdn"
      have l11 : (Str.ofString "1").length = 1 := by decide +kernel
      have l00 : (Str.ofString "").length = 0 := by decide +kernel
      have lg1 : (⟨#[g1]⟩ : Str).length = 1 := rfl
      have lg2 : (⟨#[g2]⟩ : Str).length = 1 := rfl
      refine for_range (n := (m2 % 10).toNat) (fun i σ H' => ∃ (z : Str) (u1 u2 u3 : Option V) (m : Int), σ = [some (.ref a), some (.int cell), some (.ref p), some (.ref wA), some (.ref pA), some (.ref sA), some (.str z), u1, u2, u3] ∧ z.length ≤ i ∧ 0 ≤ m ∧ H' p = some (.lst [.int m]) ∧ Fr1 p H9 H') ⟨Str.ofString "", c7, c8, c9, m2 / 10, rfl, by omega, by omega, upd_same, fr2.upd⟩ ?_ ?_
      · rintro i σ H' hi ⟨z, u1, u2, u3, m3, rfl, hzl, hm3, hp3, fr3⟩
        walk_at "rdn"
        obtain ⟨c, hc⟩ := at_ex (xs := (Str.ofString "abcdefghijklmnopqrstuvwxyz").cps.toList) (i := m3 % 26) (by omega) (by show m3 % 26 < 26; omega)
        have lc : (⟨#[c]⟩ : Str).length = 1 := rfl
        refine q_ixS (by decide) hc ?_
        walk_at "rdn"
        exact ⟨_, _, _, _, m3 / 26, rfl, by walk_at "sd", by omega, upd_same, fr3.upd⟩
      · rintro σ H' ⟨z, u1, u2, u3, m3, rfl, hzl, hm3, hp3, fr3⟩
        have k2 := fr1_at fr3 nwp f2
        have k3 := fr1_at fr3 npp' f3
        have k4 := fr1_at fr3 nps' f4
        walk_at "rdn"
        intro fA hfA
        walk_at "rdn"
        obtain ⟨fg, h4, hfg⟩ := at_strs [Str.ofString "", Str.ofString "0", Str.ofString "00"] (fun x => x.length ≤ 2) (i := w3) (by decide +kernel) (by omega) (by show w3 < 3; omega)
        refine q_ixL (by walk_at "sq") h4 ?_
        walk_at "rdn"
        intro lA hlA
        walk_at "rdn"
        obtain ⟨v, h5, hv⟩ := at_ints [m3 % 4, 30 - w3, 31 - w3, m3 / 4 % 32] (fun x => 0 ≤ x ∧ x ≤ 31) (i := w2) (by intro x hx; simp only [List.mem_cons, List.not_mem_nil, or_false] at hx; omega) (by omega) (by show w2 < 4; omega)
        refine q_ixL (by walk_at "sq") h5 ?_
        walk_at "rdn"
        refine for_range (n := v.toNat) (fun i σ H' => ∃ (f : Str) (u7 u9 : Option V) (m : Int), σ = [some (.ref a), some (.int cell), some (.ref p), some (.ref wA), some (.ref pA), some (.ref sA), some (.str z), u7, some (.str f), u9] ∧ f.length ≤ 2 + i ∧ 0 ≤ m ∧ H' p = some (.lst [.int m]) ∧ Fr1 p H9 H') ⟨fg, u1, u3, m3 / 4 / 32, rfl, by omega, by omega, by walk_at "lk", fun b o hb e => by walk_at "lk"⟩ ?_ ?_
        · rintro i σ H' hi ⟨f, u7, u9, m4, rfl, hfl, hm4, hp4, fr4⟩
          walk_at "rdn"
          obtain ⟨c, hc⟩ := at_ex (xs := (Str.ofString "0123456789").cps.toList) (i := m4 % 10) (by omega) (by show m4 % 10 < 10; omega)
          have lc : (⟨#[c]⟩ : Str).length = 1 := rfl
          refine q_ixS (by decide) hc ?_
          walk_at "rdn"
          exact ⟨_, _, _, m4 / 10, rfl, by walk_at "sd", by omega, upd_same, fr4.upd⟩
        · clear k2 k3 k4 hfA hlA
          rintro σ H' ⟨f, u7, u9, m4, rfl, hfl, hm4, hp4, fr4⟩
          have k2 := fr1_at fr4 nwp f2
          have k3 := fr1_at fr4 npp' f3
          have k4 := fr1_at fr4 nps' f4
          have k5 := fr1_at fr4 ngp f5
          walk_at "rdn"
          intro s1 hs1
          walk_at "rdn"
          intro tA htA
          walk_at "rdn"
          refine' for_grow ?hl rfl ?hb ?hd
          case hl => walk_at "sq"
          case hb =>
            intro x hx H5 s5 N hN
            simp only [List.mem_cons, List.not_mem_nil, or_false] at hx
            rcases hx with rfl | rfl | rfl | rfl | rfl
            all_goals walk_at "rd"
            all_goals exact hN _ (by assumption)
          case hd =>
            intro v5 H5 s5
            have r2 : H5 wA = some (.lst [.int w1, .int w2, .int w3]) := by walk_at "lk"
            have r3 : H5 pA = some (.lst [.int q1, .int q2]) := by walk_at "lk"
            have r4 : H5 sA = some (.lst [.str ⟨#[g1]⟩, .str ⟨#[g2]⟩]) := by walk_at "lk"
            have r5 : H5 g = some (.lst (cutV (ns.map V.int) none (some 40) ++ [V.int 6])) := by walk_at "lk"
            walk_at "rdn"
            intro s2 hs2
            walk_at "rdn"
            intro H6 s6
            walk_at "rdn"
            exact ⟨_, _, _, _, _, _, _, _, _, rfl, same_at s6 r5⟩
    · rintro σ H1 ⟨c1, c2, c3, c4, c5, c6, c7, c8, c9, rfl, h1⟩
      walk_at "rdn"
      intro H2
      walk_at "rdn"
      exact k H2

end
theorem all_mk {l : PySem.W.OpenLaw} {w : World} {K : PySem.W.Frag} {h : Heap} {mg : Str → Option Value} {fa : Addr} (X : K.In h) (G : h.Ns mainGlobals mg) (hfa : mg "law" = some (.ref fa))
    {f_law_take : Addr} {od_law_take an_law_take : Option Addr} {sl_law_take : Array (Option Value)} {oc_law_take kV_law_take dc_law_take pm_law_take cd_law_take ct_law_take : Value}
    {f_law_pool : Addr} {od_law_pool an_law_pool : Option Addr} {sl_law_pool : Array (Option Value)} {oc_law_pool kV_law_pool dc_law_pool pm_law_pool cd_law_pool ct_law_pool : Value}
    {f_law_sign : Addr} {od_law_sign an_law_sign : Option Addr} {sl_law_sign : Array (Option Value)} {oc_law_sign kV_law_sign dc_law_sign pm_law_sign cd_law_sign ct_law_sign : Value}
    {f_is_text_of : Addr} {od_is_text_of an_is_text_of : Option Addr} {sl_is_text_of : Array (Option Value)} {oc_is_text_of kV_is_text_of dc_is_text_of pm_is_text_of cd_is_text_of ct_is_text_of : Value}
    {f_is_word : Addr} {od_is_word an_is_word : Option Addr} {sl_is_word : Array (Option Value)} {oc_is_word kV_is_word dc_is_word pm_is_word cd_is_word ct_is_word : Value}
    {f_number_in : Addr} {od_number_in an_number_in : Option Addr} {sl_number_in : Array (Option Value)} {oc_number_in kV_number_in dc_number_in pm_number_in cd_number_in ct_number_in : Value}
    {f_law_is_word : Addr} {od_law_is_word an_law_is_word : Option Addr} {sl_law_is_word : Array (Option Value)} {oc_law_is_word kV_law_is_word dc_law_is_word pm_law_is_word cd_law_is_word ct_law_is_word : Value}
    {f_law_number : Addr} {od_law_number an_law_number : Option Addr} {sl_law_number : Array (Option Value)} {oc_law_number kV_law_number dc_law_number pm_law_number cd_law_number ct_law_number : Value}
    {f_is_whole : Addr} {od_is_whole an_is_whole : Option Addr} {sl_is_whole : Array (Option Value)} {oc_is_whole kV_is_whole dc_is_whole pm_is_whole cd_is_whole ct_is_whole : Value}
    {da_is_whole : Addr} {ddd_is_whole : Option Addr} {dn_is_whole : Nat} {dsl_is_whole : Array (Option Value)}
    {f_law_texts_right : Addr} {od_law_texts_right an_law_texts_right : Option Addr} {sl_law_texts_right : Array (Option Value)} {oc_law_texts_right kV_law_texts_right dc_law_texts_right pm_law_texts_right cd_law_texts_right ct_law_texts_right : Value}
    {f_law_spoilt : Addr} {od_law_spoilt an_law_spoilt : Option Addr} {sl_law_spoilt : Array (Option Value)} {oc_law_spoilt kV_law_spoilt dc_law_spoilt pm_law_spoilt cd_law_spoilt ct_law_spoilt : Value}
    {f_law_numbers_right : Addr} {od_law_numbers_right an_law_numbers_right : Option Addr} {sl_law_numbers_right : Array (Option Value)} {oc_law_numbers_right kV_law_numbers_right dc_law_numbers_right pm_law_numbers_right cd_law_numbers_right ct_law_numbers_right : Value}
    {f_is_list : Addr} {od_is_list an_is_list : Option Addr} {sl_is_list : Array (Option Value)} {oc_is_list kV_is_list dc_is_list pm_is_list cd_is_list ct_is_list : Value}
    {f_Counts_init : Addr} {od_Counts_init an_Counts_init : Option Addr} {sl_Counts_init : Array (Option Value)} {oc_Counts_init kV_Counts_init dc_Counts_init pm_Counts_init cd_Counts_init ct_Counts_init : Value}
    {f_law_things : Addr} {od_law_things an_law_things : Option Addr} {sl_law_things : Array (Option Value)} {oc_law_things kV_law_things dc_law_things pm_law_things cd_law_things ct_law_things : Value}
    {f_law : Addr} {od_law an_law : Option Addr} {sl_law : Array (Option Value)} {oc_law kV_law dc_law pm_law cd_law ct_law : Value}
    {C_Counts : Addr}
    {t_LEAST_MEMBERS : Tok}
    {t_MOST_FIGURES : Tok}
    {t_MOST_MEMBERS : Tok}
    {t_MOST_SIGNS : Tok}
    (aC_Counts : PySem.W.nsIn K mainGlobals "Counts" = some (some (.ref C_Counts)))
    (a_law_take : PySem.W.nsIn K mainGlobals "_law_take" = some (some (.ref f_law_take)))
    (l_law_take : K.lookup f_law_take = some ⟨oc_law_take, od_law_take, .func (PySem.W.fnOf "_law_take" "_law_take" (defArgs s_law_take) (defBody s_law_take) (defScope s_law_take) .none kV_law_take dc_law_take pm_law_take an_law_take cd_law_take ct_law_take), sl_law_take⟩)
    (c_law_take : PySem.W.codeIn K cd_law_take "_law_take" = true)
    (k_law_take : PySem.W.keepIn K (.ref f_law_take) = true)
    (a_law_pool : PySem.W.nsIn K mainGlobals "_law_pool" = some (some (.ref f_law_pool)))
    (l_law_pool : K.lookup f_law_pool = some ⟨oc_law_pool, od_law_pool, .func (PySem.W.fnOf "_law_pool" "_law_pool" (defArgs s_law_pool) (defBody s_law_pool) (defScope s_law_pool) .none kV_law_pool dc_law_pool pm_law_pool an_law_pool cd_law_pool ct_law_pool), sl_law_pool⟩)
    (c_law_pool : PySem.W.codeIn K cd_law_pool "_law_pool" = true)
    (k_law_pool : PySem.W.keepIn K (.ref f_law_pool) = true)
    (a_law_sign : PySem.W.nsIn K mainGlobals "_law_sign" = some (some (.ref f_law_sign)))
    (l_law_sign : K.lookup f_law_sign = some ⟨oc_law_sign, od_law_sign, .func (PySem.W.fnOf "_law_sign" "_law_sign" (defArgs s_law_sign) (defBody s_law_sign) (defScope s_law_sign) .none kV_law_sign dc_law_sign pm_law_sign an_law_sign cd_law_sign ct_law_sign), sl_law_sign⟩)
    (c_law_sign : PySem.W.codeIn K cd_law_sign "_law_sign" = true)
    (k_law_sign : PySem.W.keepIn K (.ref f_law_sign) = true)
    (a_is_text_of : PySem.W.nsIn K mainGlobals "is_text_of" = some (some (.ref f_is_text_of)))
    (l_is_text_of : K.lookup f_is_text_of = some ⟨oc_is_text_of, od_is_text_of, .func (PySem.W.fnOf "is_text_of" "is_text_of" (defArgs s_is_text_of) (defBody s_is_text_of) (defScope s_is_text_of) .none kV_is_text_of dc_is_text_of pm_is_text_of an_is_text_of cd_is_text_of ct_is_text_of), sl_is_text_of⟩)
    (c_is_text_of : PySem.W.codeIn K cd_is_text_of "is_text_of" = true)
    (k_is_text_of : PySem.W.keepIn K (.ref f_is_text_of) = true)
    (a_is_word : PySem.W.nsIn K mainGlobals "is_word" = some (some (.ref f_is_word)))
    (l_is_word : K.lookup f_is_word = some ⟨oc_is_word, od_is_word, .func (PySem.W.fnOf "is_word" "is_word" (defArgs s_is_word) (defBody s_is_word) (defScope s_is_word) .none kV_is_word dc_is_word pm_is_word an_is_word cd_is_word ct_is_word), sl_is_word⟩)
    (c_is_word : PySem.W.codeIn K cd_is_word "is_word" = true)
    (k_is_word : PySem.W.keepIn K (.ref f_is_word) = true)
    (a_number_in : PySem.W.nsIn K mainGlobals "number_in" = some (some (.ref f_number_in)))
    (l_number_in : K.lookup f_number_in = some ⟨oc_number_in, od_number_in, .func (PySem.W.fnOf "number_in" "number_in" (defArgs s_number_in) (defBody s_number_in) (defScope s_number_in) .none kV_number_in dc_number_in pm_number_in an_number_in cd_number_in ct_number_in), sl_number_in⟩)
    (c_number_in : PySem.W.codeIn K cd_number_in "number_in" = true)
    (k_number_in : PySem.W.keepIn K (.ref f_number_in) = true)
    (a_law_is_word : PySem.W.nsIn K mainGlobals "_law_is_word" = some (some (.ref f_law_is_word)))
    (l_law_is_word : K.lookup f_law_is_word = some ⟨oc_law_is_word, od_law_is_word, .func (PySem.W.fnOf "_law_is_word" "_law_is_word" (defArgs s_law_is_word) (defBody s_law_is_word) (defScope s_law_is_word) .none kV_law_is_word dc_law_is_word pm_law_is_word an_law_is_word cd_law_is_word ct_law_is_word), sl_law_is_word⟩)
    (c_law_is_word : PySem.W.codeIn K cd_law_is_word "_law_is_word" = true)
    (k_law_is_word : PySem.W.keepIn K (.ref f_law_is_word) = true)
    (a_law_number : PySem.W.nsIn K mainGlobals "_law_number" = some (some (.ref f_law_number)))
    (l_law_number : K.lookup f_law_number = some ⟨oc_law_number, od_law_number, .func (PySem.W.fnOf "_law_number" "_law_number" (defArgs s_law_number) (defBody s_law_number) (defScope s_law_number) .none kV_law_number dc_law_number pm_law_number an_law_number cd_law_number ct_law_number), sl_law_number⟩)
    (c_law_number : PySem.W.codeIn K cd_law_number "_law_number" = true)
    (k_law_number : PySem.W.keepIn K (.ref f_law_number) = true)
    (a_is_whole : PySem.W.nsIn K mainGlobals "is_whole" = some (some (.ref f_is_whole)))
    (l_is_whole : K.lookup f_is_whole = some ⟨oc_is_whole, od_is_whole, .func (PySem.W.fnOf "is_whole" "is_whole" (defArgs s_is_whole) (defBody s_is_whole) (defScope s_is_whole) (.ref da_is_whole) kV_is_whole dc_is_whole pm_is_whole an_is_whole cd_is_whole ct_is_whole), sl_is_whole⟩)
    (c_is_whole : PySem.W.codeIn K cd_is_whole "is_whole" = true)
    (k_is_whole : PySem.W.keepIn K (.ref f_is_whole) = true)
    (e_is_whole : K.lookup da_is_whole = some ⟨.type "tuple", ddd_is_whole, .seq #[.none] dn_is_whole, dsl_is_whole⟩)
    (a_law_texts_right : PySem.W.nsIn K mainGlobals "_law_texts_right" = some (some (.ref f_law_texts_right)))
    (l_law_texts_right : K.lookup f_law_texts_right = some ⟨oc_law_texts_right, od_law_texts_right, .func (PySem.W.fnOf "_law_texts_right" "_law_texts_right" (defArgs s_law_texts_right) (defBody s_law_texts_right) (defScope s_law_texts_right) .none kV_law_texts_right dc_law_texts_right pm_law_texts_right an_law_texts_right cd_law_texts_right ct_law_texts_right), sl_law_texts_right⟩)
    (c_law_texts_right : PySem.W.codeIn K cd_law_texts_right "_law_texts_right" = true)
    (k_law_texts_right : PySem.W.keepIn K (.ref f_law_texts_right) = true)
    (a_law_spoilt : PySem.W.nsIn K mainGlobals "_law_spoilt" = some (some (.ref f_law_spoilt)))
    (l_law_spoilt : K.lookup f_law_spoilt = some ⟨oc_law_spoilt, od_law_spoilt, .func (PySem.W.fnOf "_law_spoilt" "_law_spoilt" (defArgs s_law_spoilt) (defBody s_law_spoilt) (defScope s_law_spoilt) .none kV_law_spoilt dc_law_spoilt pm_law_spoilt an_law_spoilt cd_law_spoilt ct_law_spoilt), sl_law_spoilt⟩)
    (c_law_spoilt : PySem.W.codeIn K cd_law_spoilt "_law_spoilt" = true)
    (k_law_spoilt : PySem.W.keepIn K (.ref f_law_spoilt) = true)
    (a_law_numbers_right : PySem.W.nsIn K mainGlobals "_law_numbers_right" = some (some (.ref f_law_numbers_right)))
    (l_law_numbers_right : K.lookup f_law_numbers_right = some ⟨oc_law_numbers_right, od_law_numbers_right, .func (PySem.W.fnOf "_law_numbers_right" "_law_numbers_right" (defArgs s_law_numbers_right) (defBody s_law_numbers_right) (defScope s_law_numbers_right) .none kV_law_numbers_right dc_law_numbers_right pm_law_numbers_right an_law_numbers_right cd_law_numbers_right ct_law_numbers_right), sl_law_numbers_right⟩)
    (c_law_numbers_right : PySem.W.codeIn K cd_law_numbers_right "_law_numbers_right" = true)
    (k_law_numbers_right : PySem.W.keepIn K (.ref f_law_numbers_right) = true)
    (a_is_list : PySem.W.nsIn K mainGlobals "is_list" = some (some (.ref f_is_list)))
    (l_is_list : K.lookup f_is_list = some ⟨oc_is_list, od_is_list, .func (PySem.W.fnOf "is_list" "is_list" (defArgs s_is_list) (defBody s_is_list) (defScope s_is_list) .none kV_is_list dc_is_list pm_is_list an_is_list cd_is_list ct_is_list), sl_is_list⟩)
    (c_is_list : PySem.W.codeIn K cd_is_list "is_list" = true)
    (k_is_list : PySem.W.keepIn K (.ref f_is_list) = true)
    (a_Counts_init : PySem.W.findIn K (.ref C_Counts) "__init__" = some (some (.ref f_Counts_init)))
    (i_Counts_init : PySem.W.isFn K (.ref f_Counts_init) = true)
    (l_Counts_init : K.lookup f_Counts_init = some ⟨oc_Counts_init, od_Counts_init, .func (PySem.W.fnOf "__init__" "Counts.__init__" (defArgs s_Counts_init) (defBody s_Counts_init) (defScope s_Counts_init) .none kV_Counts_init dc_Counts_init pm_Counts_init an_Counts_init cd_Counts_init ct_Counts_init), sl_Counts_init⟩)
    (c_Counts_init : PySem.W.codeIn K cd_Counts_init "Counts.__init__" = true)
    (k_Counts_init : PySem.W.keepIn K (.ref f_Counts_init) = true)
    (a_law_things : PySem.W.nsIn K mainGlobals "_law_things" = some (some (.ref f_law_things)))
    (l_law_things : K.lookup f_law_things = some ⟨oc_law_things, od_law_things, .func (PySem.W.fnOf "_law_things" "_law_things" (defArgs s_law_things) (defBody s_law_things) (defScope s_law_things) .none kV_law_things dc_law_things pm_law_things an_law_things cd_law_things ct_law_things), sl_law_things⟩)
    (c_law_things : PySem.W.codeIn K cd_law_things "_law_things" = true)
    (k_law_things : PySem.W.keepIn K (.ref f_law_things) = true)
    (a_law : PySem.W.nsIn K mainGlobals "law" = some (some (.ref f_law)))
    (l_law : K.lookup f_law = some ⟨oc_law, od_law, .func (PySem.W.fnOf "law" "law" (defArgs s_law) (defBody s_law) (defScope s_law) .none kV_law dc_law pm_law an_law cd_law ct_law), sl_law⟩)
    (c_law : PySem.W.codeIn K cd_law "law" = true)
    (k_law : PySem.W.keepIn K (.ref f_law) = true)
    (kC_Counts : PySem.W.keepIn K (.ref C_Counts) = true)
    (pg_Counts : PySem.W.plainGet K C_Counts Str.empty = true)
    (hd_Counts : PySem.W.hasDictIn K C_Counts = true)
    (po_Counts : PySem.W.plainOver K C_Counts = true)
    (sa_Counts : PySem.W.findIn K (.ref C_Counts) "__setattr__" = some (some (.builtin "object.__setattr__")))
    (mk_Counts : PySem.W.makesIn K C_Counts = true)
    (ha_Counts : PySem.W.findIn K (.ref C_Counts) "__class__" = some (some (.builtin "object.__class__")))
    (hm_Counts : PySem.W.mroIn K C_Counts (.type "object") = some true)
    (n_Counts__numbers : PySem.W.findIn K (.ref C_Counts) "_numbers" = some none)
    (x_hn : PySem.W.specialIn K (.builtin "object.__class__") "__get__" = some (some (.builtin "getset_descriptor.__get__")))
    (x_htk : PySem.W.takesIn K (.builtin "object.__class__") = some true)
    (x_ks_Counts : PySem.W.subIn K (.ref C_Counts) (.type "str") = some false)
    (x_ki_Counts : PySem.W.subIn K (.ref C_Counts) (.type "int") = some false)
    (z_all : PySem.W.nsIn K mainGlobals "all" = some none)
    (z_bool : PySem.W.nsIn K mainGlobals "bool" = some none)
    (z_int : PySem.W.nsIn K mainGlobals "int" = some none)
    (z_isinstance : PySem.W.nsIn K mainGlobals "isinstance" = some none)
    (z_len : PySem.W.nsIn K mainGlobals "len" = some none)
    (z_list : PySem.W.nsIn K mainGlobals "list" = some none)
    (z_max : PySem.W.nsIn K mainGlobals "max" = some none)
    (z_min : PySem.W.nsIn K mainGlobals "min" = some none)
    (z_range : PySem.W.nsIn K mainGlobals "range" = some none)
    (z_str : PySem.W.nsIn K mainGlobals "str" = some none)
    (z_tuple : PySem.W.nsIn K mainGlobals "tuple" = some none)
    (g_LEAST_MEMBERS : PySem.W.nsIn K mainGlobals "LEAST_MEMBERS" = some (some (.int 2 t_LEAST_MEMBERS)))
    (g_MOST_FIGURES : PySem.W.nsIn K mainGlobals "MOST_FIGURES" = some (some (.int 30 t_MOST_FIGURES)))
    (g_MOST_MEMBERS : PySem.W.nsIn K mainGlobals "MOST_MEMBERS" = some (some (.int 5 t_MOST_MEMBERS)))
    (g_MOST_SIGNS : PySem.W.nsIn K mainGlobals "MOST_SIGNS" = some (some (.int 8 t_MOST_SIGNS))) :
    ∃ fd : FuncData, (∀ (s : Shared) (v : Value), BindsTo s fd ⟨[v], []⟩ [("script", v)]) ∧ ∀ base : Heap, K.In base → base.Ns mainGlobals mg → FnOk l.prog w K mg base CX0 6 fa fd ["script"] (sp_law K) := by
  have ee := hfa.symm.trans (PySem.W.mg_of X G a_law)
  cases ee
  have F_law_take := fun_mk (st := s_law_take) l_law_take c_law_take k_law_take
  have b_law_take := F_law_take.binds (ps := ["pool", "size"]) fun _ _ _ _ _ _ us hl => match us, hl with | [_, _], _ => rfl
  have F_law_pool := fun_mk (st := s_law_pool) l_law_pool c_law_pool k_law_pool
  have b_law_pool := F_law_pool.binds (ps := ["cell"]) fun _ _ _ _ _ _ us hl => match us, hl with | [_], _ => rfl
  have F_law_sign := fun_mk (st := s_law_sign) l_law_sign c_law_sign k_law_sign
  have b_law_sign := F_law_sign.binds (ps := ["pool"]) fun _ _ _ _ _ _ us hl => match us, hl with | [_], _ => rfl
  have F_is_text_of := fun_mk (st := s_is_text_of) l_is_text_of c_is_text_of k_is_text_of
  have b_is_text_of := F_is_text_of.binds (ps := ["thing", "first", "last", "most"]) fun _ _ _ _ _ _ us hl => match us, hl with | [_, _, _, _], _ => rfl
  have F_is_word := fun_mk (st := s_is_word) l_is_word c_is_word k_is_word
  have b_is_word := F_is_word.binds (ps := ["thing"]) fun _ _ _ _ _ _ us hl => match us, hl with | [_], _ => rfl
  have F_number_in := fun_mk (st := s_number_in) l_number_in c_number_in k_number_in
  have b_number_in := F_number_in.binds (ps := ["thing"]) fun _ _ _ _ _ _ us hl => match us, hl with | [_], _ => rfl
  have F_law_is_word := fun_mk (st := s_law_is_word) l_law_is_word c_law_is_word k_law_is_word
  have b_law_is_word := F_law_is_word.binds (ps := ["text"]) fun _ _ _ _ _ _ us hl => match us, hl with | [_], _ => rfl
  have F_law_number := fun_mk (st := s_law_number) l_law_number c_law_number k_law_number
  have b_law_number := F_law_number.binds (ps := ["text"]) fun _ _ _ _ _ _ us hl => match us, hl with | [_], _ => rfl
  have F_is_whole : FunD K "is_whole" "is_whole" (defArgs s_is_whole) (defBody s_is_whole) (defScope s_is_whole) [.non] [] f_is_whole _ := ⟨⟨_, _, _, _, _, _, _, _, _, _, rfl, l_is_whole, c_is_whole, .inr ⟨(by intro z; cases z), _, _, _, _, rfl, e_is_whole, rfl, (.cons rfl .nil)⟩, .inl rfl⟩, k_is_whole⟩
  obtain ⟨ds_is_whole_2, v_is_whole_2, b_is_whole_2⟩ := F_is_whole.binds1 (ps := ["thing", "low", "high"]) 2 0 (by intro z; cases z) rfl (fun _ _ _ _ _ _ _ us its h1 h2 => match us, its, h1, h2 with | [_, _], [_], _, _ => ⟨_, rfl, rfl⟩)
  obtain ⟨ds_is_whole, v_is_whole, b_is_whole⟩ := F_is_whole.binds1 (ps := ["thing", "low", "high"]) 3 1 (by intro z; cases z) rfl (fun _ _ _ _ _ _ _ us its h1 h2 => match us, its, h1, h2 with | [_, _, _], [_], _, _ => ⟨_, rfl, rfl⟩)
  cases v_is_whole
  have kb_is_whole_1_low_high := F_is_whole.kbinds1 (ps := ["thing", "low", "high"]) 1 ["low", "high"] (by intro z; cases z) (fun _ _ _ _ _ _ _ us its ws h1 h2 h3 => match us, its, ws, h1, h2, h3 with | [_], [_], [_, _], _, _, _ => ⟨_, rfl, by with_unfolding_all rfl⟩)
  have F_law_texts_right := fun_mk (st := s_law_texts_right) l_law_texts_right c_law_texts_right k_law_texts_right
  have b_law_texts_right := F_law_texts_right.binds (ps := ["text"]) fun _ _ _ _ _ _ us hl => match us, hl with | [_], _ => rfl
  have F_law_spoilt := fun_mk (st := s_law_spoilt) l_law_spoilt c_law_spoilt k_law_spoilt
  have b_law_spoilt := F_law_spoilt.binds (ps := ["text", "way", "place", "sign"]) fun _ _ _ _ _ _ us hl => match us, hl with | [_, _, _, _], _ => rfl
  have F_law_numbers_right := fun_mk (st := s_law_numbers_right) l_law_numbers_right c_law_numbers_right k_law_numbers_right
  have b_law_numbers_right := F_law_numbers_right.binds (ps := ["pool"]) fun _ _ _ _ _ _ us hl => match us, hl with | [_], _ => rfl
  have F_is_list := fun_mk (st := s_is_list) l_is_list c_is_list k_is_list
  have b_is_list := F_is_list.binds (ps := ["thing"]) fun _ _ _ _ _ _ us hl => match us, hl with | [_], _ => rfl
  have F_Counts_init := fun_mk (st := s_Counts_init) l_Counts_init c_Counts_init k_Counts_init
  have b_Counts_init := F_Counts_init.binds (ps := ["self", "numbers"]) fun _ _ _ _ _ _ us hl => match us, hl with | [_, _], _ => rfl
  have F_law_things := fun_mk (st := s_law_things) l_law_things c_law_things k_law_things
  have b_law_things := F_law_things.binds (ps := []) fun _ _ _ _ _ _ us hl => match us, hl with | [], _ => rfl
  have F_law := fun_mk (st := s_law) l_law c_law k_law
  have b_law := F_law.binds (ps := ["script"]) fun _ _ _ _ _ _ us hl => match us, hl with | [_], _ => rfl
  have g_Counts := PySem.W.mg_of X G aC_Counts
  have c_Counts : Cls K C_Counts := ⟨pg_Counts, hd_Counts, po_Counts, sa_Counts⟩
  have mkk_Counts : Mk K C_Counts f_Counts_init := ⟨mk_Counts, a_Counts_init, i_Counts_init, kC_Counts⟩
  let T : Tx K mg := { f_law_take := f_law_take, d_law_take := _, F_law_take := F_law_take, m_law_take := PySem.W.mg_of X G a_law_take, k_law_take := k_law_take, b_law_take := b_law_take, f_law_pool := f_law_pool, d_law_pool := _, F_law_pool := F_law_pool, m_law_pool := PySem.W.mg_of X G a_law_pool, k_law_pool := k_law_pool, b_law_pool := b_law_pool, f_law_sign := f_law_sign, d_law_sign := _, F_law_sign := F_law_sign, m_law_sign := PySem.W.mg_of X G a_law_sign, k_law_sign := k_law_sign, b_law_sign := b_law_sign, f_is_text_of := f_is_text_of, d_is_text_of := _, F_is_text_of := F_is_text_of, m_is_text_of := PySem.W.mg_of X G a_is_text_of, k_is_text_of := k_is_text_of, b_is_text_of := b_is_text_of, f_is_word := f_is_word, d_is_word := _, F_is_word := F_is_word, m_is_word := PySem.W.mg_of X G a_is_word, k_is_word := k_is_word, b_is_word := b_is_word, f_number_in := f_number_in, d_number_in := _, F_number_in := F_number_in, m_number_in := PySem.W.mg_of X G a_number_in, k_number_in := k_number_in, b_number_in := b_number_in, f_law_is_word := f_law_is_word, d_law_is_word := _, F_law_is_word := F_law_is_word, m_law_is_word := PySem.W.mg_of X G a_law_is_word, k_law_is_word := k_law_is_word, b_law_is_word := b_law_is_word, f_law_number := f_law_number, d_law_number := _, F_law_number := F_law_number, m_law_number := PySem.W.mg_of X G a_law_number, k_law_number := k_law_number, b_law_number := b_law_number, f_is_whole := f_is_whole, d_is_whole := _, F_is_whole := F_is_whole, m_is_whole := PySem.W.mg_of X G a_is_whole, k_is_whole := k_is_whole, ds_is_whole_2 := ds_is_whole_2, v_is_whole_2 := v_is_whole_2, b_is_whole_2 := b_is_whole_2, b_is_whole := b_is_whole, kb_is_whole_1_low_high := kb_is_whole_1_low_high, f_law_texts_right := f_law_texts_right, d_law_texts_right := _, F_law_texts_right := F_law_texts_right, m_law_texts_right := PySem.W.mg_of X G a_law_texts_right, k_law_texts_right := k_law_texts_right, b_law_texts_right := b_law_texts_right, f_law_spoilt := f_law_spoilt, d_law_spoilt := _, F_law_spoilt := F_law_spoilt, m_law_spoilt := PySem.W.mg_of X G a_law_spoilt, k_law_spoilt := k_law_spoilt, b_law_spoilt := b_law_spoilt, f_law_numbers_right := f_law_numbers_right, d_law_numbers_right := _, F_law_numbers_right := F_law_numbers_right, m_law_numbers_right := PySem.W.mg_of X G a_law_numbers_right, k_law_numbers_right := k_law_numbers_right, b_law_numbers_right := b_law_numbers_right, f_is_list := f_is_list, d_is_list := _, F_is_list := F_is_list, m_is_list := PySem.W.mg_of X G a_is_list, k_is_list := k_is_list, b_is_list := b_is_list, f_Counts_init := f_Counts_init, d_Counts_init := _, F_Counts_init := F_Counts_init, b_Counts_init := b_Counts_init, f_law_things := f_law_things, d_law_things := _, F_law_things := F_law_things, m_law_things := PySem.W.mg_of X G a_law_things, k_law_things := k_law_things, b_law_things := b_law_things, f_law := fa, d_law := _, F_law := F_law, m_law := PySem.W.mg_of X G a_law, k_law := k_law, b_law := b_law, C_Counts := C_Counts, g_Counts := g_Counts, c_Counts := c_Counts, ha_Counts := ha_Counts, hm_Counts := hm_Counts, n_Counts__numbers := n_Counts__numbers, mk_Counts := mkk_Counts, hn := x_hn, htk := x_htk, ks_Counts := x_ks_Counts, ki_Counts := x_ki_Counts, z_all := PySem.W.mg_none_of X G z_all, z_bool := PySem.W.mg_none_of X G z_bool, z_int := PySem.W.mg_none_of X G z_int, z_isinstance := PySem.W.mg_none_of X G z_isinstance, z_len := PySem.W.mg_none_of X G z_len, z_list := PySem.W.mg_none_of X G z_list, z_max := PySem.W.mg_none_of X G z_max, z_min := PySem.W.mg_none_of X G z_min, z_range := PySem.W.mg_none_of X G z_range, z_str := PySem.W.mg_none_of X G z_str, z_tuple := PySem.W.mg_none_of X G z_tuple, t_LEAST_MEMBERS := t_LEAST_MEMBERS, g_LEAST_MEMBERS := PySem.W.mg_of X G g_LEAST_MEMBERS, t_MOST_FIGURES := t_MOST_FIGURES, g_MOST_FIGURES := PySem.W.mg_of X G g_MOST_FIGURES, t_MOST_MEMBERS := t_MOST_MEMBERS, g_MOST_MEMBERS := PySem.W.mg_of X G g_MOST_MEMBERS, t_MOST_SIGNS := t_MOST_SIGNS, g_MOST_SIGNS := PySem.W.mg_of X G g_MOST_SIGNS }
  exact ⟨_, fun s v => .of_eq rfl, fun base _ _ => ok_law T⟩
theorem walk {l : PySem.W.OpenLaw} {q : Program} {loose : List Str} {XP : (Str → Option Value) → Heap → Prop} {YP : World → Heap → Prop} {d : DefRec} {K : Params → PySem.W.Frag} (hn : l.most = some 63) (hdf : d.params.defaults = [])
    (hY : ∀ (w : World) (h : Heap), YP w h → (K w.params).In h)
    (F : ∀ (w : World) (mg : Str → Option Value) (fa : Addr) (h : Heap), (K w.params).In h → h.Ns mainGlobals mg → mg d.name = some (.ref fa) →
      ∃ fd : FuncData, (∀ (s : Shared) (u : Value), BindsTo s fd ⟨[u], []⟩ [("script", u)]) ∧ ∀ base : Heap, (K w.params).In base → base.Ns mainGlobals mg → FnOk l.prog w (K w.params) mg base CX0 6 fa fd ["script"] (sp_law (K w.params))) :
    PySem.W.WalkO q loose XP YP l.row.toRowW d [] (fun f vs => PySem.call f vs) :=
  L2.walk_of (n := 63) (k := 6) (x := "script") (CX := fun _ => CX0) (sp := fun w => sp_law (K w.params)) hn (by decide) hdf ⟨rfl, by decide, by decide⟩ hY F (fun _ _ a ns hl _ hS => ⟨a, ns, rfl, hS, hl, fun _ => rfl⟩) fun _ _ _ _ _ z => z
end CH
open PySem PySem.W PyProof.Rows
set_option maxRecDepth 100000 in
set_option maxHeartbeats 0 in
theorem PySem.Challenge.cw_causehall_k01_words_holds : PySem.Challenge.rw_causehall_k01_words.Holds := by
  w_on; o_law; k_head; (case hw => w_witness2)
  k_fill
  refine CH.walk (l := PySem.Challenge.rw_causehall_k01_words) rfl rfl (fun w h Y => PySem.W.kIn_of Y) ?F
  case F =>
    intro w mg fa h KX G hmg
    refine' CH.all_mk KX G hmg ?aC_Counts ?a_law_take ?l_law_take ?c_law_take ?k_law_take ?a_law_pool ?l_law_pool ?c_law_pool ?k_law_pool ?a_law_sign ?l_law_sign ?c_law_sign ?k_law_sign ?a_is_text_of ?l_is_text_of ?c_is_text_of ?k_is_text_of ?a_is_word ?l_is_word ?c_is_word ?k_is_word ?a_number_in ?l_number_in ?c_number_in ?k_number_in ?a_law_is_word ?l_law_is_word ?c_law_is_word ?k_law_is_word ?a_law_number ?l_law_number ?c_law_number ?k_law_number ?a_is_whole ?l_is_whole ?c_is_whole ?k_is_whole ?e_is_whole ?a_law_texts_right ?l_law_texts_right ?c_law_texts_right ?k_law_texts_right ?a_law_spoilt ?l_law_spoilt ?c_law_spoilt ?k_law_spoilt ?a_law_numbers_right ?l_law_numbers_right ?c_law_numbers_right ?k_law_numbers_right ?a_is_list ?l_is_list ?c_is_list ?k_is_list ?a_Counts_init ?i_Counts_init ?l_Counts_init ?c_Counts_init ?k_Counts_init ?a_law_things ?l_law_things ?c_law_things ?k_law_things ?a_law ?l_law ?c_law ?k_law ?kC_Counts ?pg_Counts ?hd_Counts ?po_Counts ?sa_Counts ?mk_Counts ?ha_Counts ?hm_Counts ?n_Counts__numbers ?x_hn ?x_htk ?x_ks_Counts ?x_ki_Counts ?z_all ?z_bool ?z_int ?z_isinstance ?z_len ?z_list ?z_max ?z_min ?z_range ?z_str ?z_tuple ?g_LEAST_MEMBERS ?g_MOST_FIGURES ?g_MOST_MEMBERS ?g_MOST_SIGNS
    (case aC_Counts => k_is)
    (case a_law_take => k_is)
    (case l_law_take => k_is)
    (case c_law_take => k_is)
    (case k_law_take => k_is)
    (case a_law_pool => k_is)
    (case l_law_pool => k_is)
    (case c_law_pool => k_is)
    (case k_law_pool => k_is)
    (case a_law_sign => k_is)
    (case l_law_sign => k_is)
    (case c_law_sign => k_is)
    (case k_law_sign => k_is)
    (case a_is_text_of => k_is)
    (case l_is_text_of => k_is)
    (case c_is_text_of => k_is)
    (case k_is_text_of => k_is)
    (case a_is_word => k_is)
    (case l_is_word => k_is)
    (case c_is_word => k_is)
    (case k_is_word => k_is)
    (case a_number_in => k_is)
    (case l_number_in => k_is)
    (case c_number_in => k_is)
    (case k_number_in => k_is)
    (case a_law_is_word => k_is)
    (case l_law_is_word => k_is)
    (case c_law_is_word => k_is)
    (case k_law_is_word => k_is)
    (case a_law_number => k_is)
    (case l_law_number => k_is)
    (case c_law_number => k_is)
    (case k_law_number => k_is)
    (case a_is_whole => k_is)
    (case l_is_whole => k_is)
    (case c_is_whole => k_is)
    (case k_is_whole => k_is)
    (case e_is_whole => k_is)
    (case a_law_texts_right => k_is)
    (case l_law_texts_right => k_is)
    (case c_law_texts_right => k_is)
    (case k_law_texts_right => k_is)
    (case a_law_spoilt => k_is)
    (case l_law_spoilt => k_is)
    (case c_law_spoilt => k_is)
    (case k_law_spoilt => k_is)
    (case a_law_numbers_right => k_is)
    (case l_law_numbers_right => k_is)
    (case c_law_numbers_right => k_is)
    (case k_law_numbers_right => k_is)
    (case a_is_list => k_is)
    (case l_is_list => k_is)
    (case c_is_list => k_is)
    (case k_is_list => k_is)
    (case a_Counts_init => k_is)
    (case i_Counts_init => k_is)
    (case l_Counts_init => k_is)
    (case c_Counts_init => k_is)
    (case k_Counts_init => k_is)
    (case a_law_things => k_is)
    (case l_law_things => k_is)
    (case c_law_things => k_is)
    (case k_law_things => k_is)
    (case a_law => k_is)
    (case l_law => k_is)
    (case c_law => k_is)
    (case k_law => k_is)
    (case kC_Counts => k_is)
    (case pg_Counts => k_is)
    (case hd_Counts => k_is)
    (case po_Counts => k_is)
    (case sa_Counts => k_is)
    (case mk_Counts => k_is)
    (case ha_Counts => k_is)
    (case hm_Counts => k_is)
    (case n_Counts__numbers => k_is)
    (case x_hn => k_is)
    (case x_htk => k_is)
    (case x_ks_Counts => k_is)
    (case x_ki_Counts => k_is)
    (case z_all => k_is)
    (case z_bool => k_is)
    (case z_int => k_is)
    (case z_isinstance => k_is)
    (case z_len => k_is)
    (case z_list => k_is)
    (case z_max => k_is)
    (case z_min => k_is)
    (case z_range => k_is)
    (case z_str => k_is)
    (case z_tuple => k_is)
    (case g_LEAST_MEMBERS => k_is)
    (case g_MOST_FIGURES => k_is)
    (case g_MOST_MEMBERS => k_is)
    (case g_MOST_SIGNS => k_is)
