import PyProof.Rows.All
import Wide.All
import OpenK.AllK
import Wide.FinOn
import HandS.ForMost
import HandS.IsInst
import HandS.Flow
import HandS.Wide
import HandS.Defaults
import HandS.Codes
import HandS.Bytes
import HandS.StrMore
import HandS.Walk
import HandS.More
import HandS.Conv
import HandS.Style
import HandS.FStr
import HandS.Star
import HandS.MakeKwOnly
import HandS.BytesMake
import KE.KBytesNew
import HandS.ExcInit
import HandS.ExcField
import KE.KExcIs
import KE.KExcInit
import KE.KExcLine
import PyProof.ExcBaseAll.OverflowError
import PyProof.ExcBaseAll.TypeError
import PyProof.ExcBaseAll.ValueError
import PyProof.ExcBaseAll.RuntimeError
import PyProof.ExcBaseAll.IndexError
import PyProof.ExcBaseAll.LookupError
import PySem.Challenge.RW_tarhouse_k28_errors_made
set_option Elab.async false
set_option linter.all false
set_option maxRecDepth 100000
set_option maxHeartbeats 8000000
namespace Th
open PySem PySem.Spec PyProof.Rows L2
section
variable {K : PySem.W.Frag} {σ : L2.St} {H : Hp} {Q : VK} {D : Ends} {t u : TS} {c : TT} {te ta tb tx : TE} {g : TG} {r r' : R2} {v x y : V} {i : Nat} {to tp : TO}
theorem r_seq (h : t { D with nx := u D } σ H) : tSeq t u D σ H := h
theorem r_if (h : c σ H fun b H1 => if b = true then t D σ H1 else u D σ H1) : tIfS c t u D σ H := h
theorem r_asg (h : te σ H fun x H1 => g x σ H1 D.nx) : tAsg te g D σ H := h
theorem r_ret (h : te σ H D.rt) : tRet te D σ H := h
theorem r_next (h : D.nx σ H) : tNext D σ H := h
theorem r_drop (h : te σ H fun _ H1 => D.nx σ H1) : tDrop te D σ H := h
theorem r_cont (h : D.ct σ H) : tCont D σ H := h
theorem r_brk (h : D.bk σ H) : tBreak D σ H := h
theorem r_gname {Q : L2.St → Hp → Prop} (h : Q (σ.set i (some v)) H) : gName i v σ H Q := h
theorem r_var (e : σ[i]? = some (some v)) (h : Q v H) : tVar i σ H Q := ⟨v, e, h⟩
theorem r_c (h : Q v H) : tC v σ H Q := h
theorem r_op (h : ta σ H fun x H1 => tb σ H1 fun y H2 => r x y H2 Q) : tOp r ta tb σ H Q := h
theorem r_un {r : V → Hp → VK → Prop} (h : ta σ H fun x H1 => r x H1 Q) : tUn r ta σ H Q := h
theorem r_neg {i : Int} (h : Q (.int (-i)) H) : rU (fun i => .int (-i)) (.int i) H Q := ⟨i, rfl, h⟩
theorem r_I0 {g : Int → Int → V} {i j : Int} (h : Q (g i j) H) : rI0 g (.int i) (.int j) H Q := ⟨i, j, rfl, rfl, h⟩
theorem r_I {C : Int → Int → Prop} {g : Int → Int → V} {i j : Int} (hc : C i j) (h : Q (g i j) H) : rI C g (.int i) (.int j) H Q := ⟨i, j, rfl, rfl, hc, h⟩
theorem r_test {t : TE} {Q : Bool → Hp → Prop} (h : t σ H fun x H' => ∃ k, x = .bl k ∧ Q k H') : tTest t σ H Q := h
theorem r_tB {t : TE} {Q : Bool → Hp → Prop} (h : t σ H fun x H' => ∃ k, x = .bl k ∧ Q k H') : tB t σ H Q := h
theorem r_bl {b : Bool} {P : Bool → Prop} (h : P b) : ∃ k, V.bl b = .bl k ∧ P k := ⟨b, rfl, h⟩
theorem r_not {t : TT} {Q : Bool → Hp → Prop} (h : t σ H fun c H1 => Q (!c) H1) : tNot t σ H Q := h
theorem r_and {t u : TT} {Q : Bool → Hp → Prop} (h : t σ H fun c H1 => if c = true then u σ H1 Q else Q false H1) : tAnd t u σ H Q := h
theorem r_or {t u : TT} {Q : Bool → Hp → Prop} (h : t σ H fun c H1 => if c = true then Q true H1 else u σ H1 Q) : tOr t u σ H Q := h
theorem r_ifE {t : TT} (h : t σ H fun c H1 => if c = true then ta σ H1 Q else tb σ H1 Q) : tIf t ta tb σ H Q := h
theorem r_notV {t : TE} (h : t σ H fun x H1 => ∃ k, x = .bl k ∧ Q (.bl (!k)) H1) : tNotV t σ H Q := h
theorem r_andV (h : ta σ H fun x H1 => ∃ k, x = .bl k ∧ if k = true then tb σ H1 Q else Q (.bl false) H1) : tAndV ta tb σ H Q := h
theorem r_orV (h : ta σ H fun x H1 => ∃ k, x = .bl k ∧ if k = true then Q (.bl true) H1 else tb σ H1 Q) : tOrV ta tb σ H Q := h
theorem r_chain (h : ta σ H fun x H1 => tb σ H1 fun y H2 => r x y H2 fun z H3 => ∃ k, z = .bl k ∧ (if k = true then tx σ H3 fun w' H4 => r' y w' H4 Q else Q (.bl false) H3)) : tChain r r' ta tb tx σ H Q := h
theorem r_iteD {p A B : Prop} [Decidable p] (h1 : p → A) (h2 : ¬ p → B) : if decide p = true then A else B := by
  by_cases h : p
  · rw [if_pos (decide_eq_true h)]; exact h1 h
  · rw [if_neg (by rw [decide_eq_false h]; exact Bool.false_ne_true)]; exact h2 h
theorem r_iteT {A B : Prop} (h : A) : if true = true then A else B := by rw [if_pos rfl]; exact h
theorem r_iteF {A B : Prop} (h : B) : if false = true then A else B := by rw [if_neg Bool.false_ne_true]; exact h
theorem r_iteB {b : Bool} {A B : Prop} (h1 : b = true → A) (h2 : b = false → B) : if b = true then A else B := by
  cases b with
  | true => exact r_iteT (h1 rfl)
  | false => exact r_iteF (h2 rfl)
theorem r_iteNT {A B : Prop} (h : B) : if (!true) = true then A else B := by rw [if_neg (by decide)]; exact h
theorem r_iteNF {A B : Prop} (h : A) : if (!false) = true then A else B := by rw [if_pos (by decide)]; exact h
theorem r_iteN {b : Bool} {A B : Prop} (h1 : b = false → A) (h2 : b = true → B) : if (!b) = true then A else B := by
  cases b with
  | true => exact r_iteNT (h2 rfl)
  | false => exact r_iteNF (h1 rfl)
theorem r_cb {r : List V → Hp → VK → Prop} {t : TA} (h : t σ H fun vs H1 => r vs H1 Q) : tCB r t σ H Q := h
theorem r_call {sp : Sp} {dvs : List V} {E : XK} {t : TA} (h : t σ H fun vs H1 => sp (vs ++ dvs) H1 Q E) : tCall sp dvs E t σ H Q := h
theorem r_nil {Q : List V → Hp → Prop} (h : Q [] H) : tNil σ H Q := h
theorem r_cons {tr : TA} {Q : List V → Hp → Prop} (h : ta σ H fun x H1 => tr σ H1 fun xs H2 => Q (x :: xs) H2) : tCons ta tr σ H Q := h
theorem r_lst {t : TA} (h : t σ H fun xs H1 => xs.length ≤ sizeLine ∧ ∀ p, H1 p = none → Q (.ref p) (upd H1 p (.lst xs))) : tLst t σ H Q := h
theorem r_tup {t : TA} (h : t σ H fun xs H1 => xs.length ≤ sizeLine ∧ ∀ p, H1 p = none → Q (.ref p) (upd H1 p (.tup xs))) : tTup t σ H Q := h
theorem r_new {n m : Nat} {P : Prop} (h : n ≤ m) (q : P) : n ≤ m ∧ P := ⟨h, q⟩
theorem r_ixL {p : Addr} {xs : List V} {i : Int} {v : V} (hp : SqL K H p xs) (hi : atI xs i = some v) (h : Q v H) : rIxL K (.ref p) (.int i) H Q := ⟨p, xs, i, v, rfl, rfl, hp, hi, h⟩
theorem r_ixT {p : Addr} {xs : List V} {i : Int} {v : V} (hp : SqT K H p xs) (hi : atI xs i = some v) (h : Q v H) : rIxT K (.ref p) (.int i) H Q := ⟨p, xs, i, v, rfl, rfl, hp, hi, h⟩
theorem r_gsub {ti : TE} {t : TSet} {Q : L2.St → Hp → Prop} (h : ta σ H fun o H1 => ti σ H1 fun i H2 => t o i v H2 fun H3 => Q σ H3) : gSub ta ti t v σ H Q := h
theorem r_setL {p : Addr} {xs : List V} {k : Int} {j : Nat} {Q : Hp → Prop} (hp : H p = some (.lst xs)) (hk : ixN xs.length k = some j) (h : Q (upd H p (.lst (xs.set j v)))) : rSetL (.ref p) (.int k) v H Q := ⟨p, xs, k, j, rfl, rfl, hp, hk, h⟩
theorem r_int1 {i : Int} (h : Q (.int i) H) : (fun (xs : List V) H (Q : VK) => (∃ i, xs = [V.int i] ∧ Q (V.int i) H) ∨ ∃ k, xs = [V.bl k] ∧ Q (V.int (if k = true then 1 else 0)) H) [.int i] H Q := .inl ⟨i, rfl, h⟩
theorem r_int1' {i : Int} (h : Q (.int i) H) : (∃ j, [V.int i] = [V.int j] ∧ Q (V.int j) H) ∨ ∃ k, [V.int i] = [V.bl k] ∧ Q (V.int (if k = true then 1 else 0)) H := .inl ⟨i, rfl, h⟩
/-! ### heaps -/
theorem upd_old {p a : Addr} {o x : HO} (hp : H p = none) (ha : H a = some x) : upd H p o a = some x := by rw [upd_ne (ne_of_none ha hp)]; exact ha
theorem upd_diff {p a : Addr} {o x : HO} (n : a ≠ p) (ha : H a = some x) : upd H p o a = some x := by rw [upd_ne n]; exact ha
/-- what is not at a stays -/
def But (a : Addr) (H H' : Hp) : Prop := ∀ b o, b ≠ a → H b = some o → H' b = some o
end
end Th
namespace Th
open PySem PySem.Spec PyProof.Rows L2
/-! ### calls of own defs, by one fact each -/
structure CalT (P : Program) (w : World) (K : PySem.W.Frag) (mg : Str → Option Value) (base : Heap) (k : Nat) (x : Str) (sp : Sp) : Prop where
  ex : ∃ (f : Addr) (fd : FuncData) (ps : List Str), FnOk P w K mg base CX0 k f fd ps sp ∧ mg x = some (.ref f) ∧ PySem.W.keepIn K (.ref f) = true ∧ Binds K fd ps []
structure CalK (P : Program) (w : World) (K : PySem.W.Frag) (mg : Str → Option Value) (base : Heap) (k : Nat) (x : Str) (ks : List Str) (sp : Sp) : Prop where
  ex : ∃ (f : Addr) (fd : FuncData) (ps : List Str), FnOk P w K mg base CX0 k f fd ps sp ∧ mg x = some (.ref f) ∧ PySem.W.keepIn K (.ref f) = true ∧ KBn K fd ps 0 ks (fun us ws => us ++ ws) (fun us ws => us ++ ws)
section
variable {X : Cx} {j k : Nat} {x : Str} {sp : Sp} {e : Expr} {es : List Expr} {p pos : Pos} {t tk : TA} {ks : List Str} {kws : List Keyword}
theorem pe_cc (c : CalT X.prog X.w X.K X.mg X.base k x sp) (hr : Room j X.A) (hk : k ≤ j) (hg : Gl X x) (ha : PA X (e :: es) t) (hdb : (x == ("__debug__" : Str)) = false := by decide)
    (he : starEach (e :: es) X.env = (false, eval e X.env) :: starEach es X.env := by rfl) (hpl : (backTo pos (starEach es X.env)).any (·.1) = false := by rfl) : PE X (.Call (.Name x p) (e :: es) [] pos) (tCall sp [] E0 t) := by
  obtain ⟨f, fd, ps, F, hm, kp, b⟩ := c.ex
  exact pe_call F (hr.mono hk) hg hm kp b .nil pass0 ha hdb he hpl
theorem pe_cc0 (c : CalT X.prog X.w X.K X.mg X.base k x sp) (hr : Room j X.A) (hk : k ≤ j) (hg : Gl X x) (hdb : (x == ("__debug__" : Str)) = false := by decide) : PE X (.Call (.Name x p) [] [] pos) (tCall sp [] E0 tNil) := by
  obtain ⟨f, fd, ps, F, hm, kp, b⟩ := c.ex
  exact pe_call0 F (hr.mono hk) hg hm kp b .nil pass0 hdb
/-- f(k = v, ..) -/
theorem pe_ck0 (c : CalK X.prog X.w X.K X.mg X.base k x ks sp) (hr : Room j X.A) (hk : k ≤ j) (hg : Gl X x) (hkw : PK X kws tk)
    (hall : (backToKw pos (keywordEach kws X.env)).all (·.1.isSome) = true := by rfl) (hks : (backToKw pos (keywordEach kws X.env)).filterMap (·.1) = ks := by rfl) (hdb : (x == ("__debug__" : Str)) = false := by decide)
    (hpl : ((backTo pos (starEach [] X.env)).any (·.1) || (backToKw pos (keywordEach kws X.env)).any (·.1.isNone)) = false := by rfl) :
    PE X (.Call (.Name x p) [] kws pos) (tCallN 0 ks.length sp (fun us ws => us ++ ws) E0 tNil tk) := by
  obtain ⟨f, fd, ps, F, hm, kp, b⟩ := c.ex
  constructor
  intro pins s σ H Q I h
  refine wpAny_Call_Name_kw (ld_glob I hg hm ?_ hdb)
  refine PySem.W.callWith_KW0 (h₀ := X.base) I.ok.mod.kin kp hall (thn (hkw.run pos pins s σ H _ I h) ?_) hpl
  rintro ws s2 ⟨zs, H2, I2, rz, l1, l2, q2⟩
  refine ⟨I2.kIn, ?_⟩
  rw [hks]
  exact run_fnN (us := []) (vs := []) F (hr.mono hk) b pass0 I2 .nil rz rfl l2 q2
end
section
variable {K : PySem.W.Frag} {σ : L2.St} {H : Hp} {Q : VK}
theorem r_callN {n m : Nat} {sp : Sp} {gV : List V → List V → List V} {E : XK} {t tk : TA} (h : t σ H fun vs H1 => tk σ H1 fun zs H2 => vs.length = n ∧ zs.length = m ∧ sp (gV vs zs) H2 Q E) : tCallN n m sp gV E t tk σ H Q := h
/-! ### built-in functions, by names -/
def rInt1 : List V → Hp → VK → Prop := fun xs H Q => ∃ i, xs = [.int i] ∧ Q (.int i) H
theorem call_rInt1 {X : Cx} : CallR X (.type "int") rInt1 := fun pins s σ H xs us Q I r h => call_int1 pins s σ H xs us Q I r (.inl h)
theorem r_rInt1 {i : Int} (h : Q (.int i) H) : rInt1 [.int i] H Q := ⟨i, rfl, h⟩
def rIntB : List V → Hp → VK → Prop := fun xs H Q => ∃ i, xs = [.bl i] ∧ Q (.int (if i then 1 else 0)) H
theorem call_rIntB {X : Cx} : CallR X (.type "int") rIntB := fun pins s σ H xs us Q I r h => call_int1 pins s σ H xs us Q I r (.inr h)
theorem r_rIntB {i : Bool} (h : Q (.int (if i then 1 else 0)) H) : rIntB [.bl i] H Q := ⟨i, rfl, h⟩
def rAbs : List V → Hp → VK → Prop := fun xs H Q => ∃ i, xs = [.int i] ∧ Q (.int (if i < 0 then -i else i)) H
theorem call_rAbs {X : Cx} : CallR X (.builtin "abs") rAbs := call_abs
theorem r_rAbs {i : Int} (h : Q (.int (if i < 0 then -i else i)) H) : rAbs [.int i] H Q := ⟨i, rfl, h⟩
def rMin2 : List V → Hp → VK → Prop := fun xs H Q => ∃ i j, xs = [.int i, .int j] ∧ Q (.int (if j < i then j else i)) H
theorem call_rMin2 {X : Cx} (hc : X.calm = true := by rfl) : CallR X (.builtin "min") rMin2 := call_min2 hc
theorem r_rMin2 {i j : Int} (h : Q (.int (if j < i then j else i)) H) : rMin2 [.int i, .int j] H Q := ⟨i, j, rfl, h⟩
def rMax2 : List V → Hp → VK → Prop := fun xs H Q => ∃ i j, xs = [.int i, .int j] ∧ Q (.int (if j > i then j else i)) H
theorem call_rMax2 {X : Cx} (hc : X.calm = true := by rfl) : CallR X (.builtin "max") rMax2 := call_max2 hc
theorem r_rMax2 {i j : Int} (h : Q (.int (if j > i then j else i)) H) : rMax2 [.int i, .int j] H Q := ⟨i, j, rfl, h⟩
def rLenQ (K : PySem.W.Frag) : List V → Hp → VK → Prop := fun xs H Q => ∃ p ys, xs = [.ref p] ∧ (SqL K H p ys ∨ SqT K H p ys) ∧ Q (.int ys.length) H
theorem call_rLenQ {X : Cx} : CallR X (.builtin "len") (rLenQ X.K) := call_len_seq
theorem r_rLenQ {p : Addr} {ys : List V} (hp : SqL K H p ys ∨ SqT K H p ys) (h : Q (.int ys.length) H) : rLenQ K [.ref p] H Q := ⟨p, ys, rfl, hp, h⟩
def rLenZ : List V → Hp → VK → Prop := fun xs H Q => ∃ z, xs = [.str z] ∧ z.length ≤ sizeLine ∧ Q (.int z.length) H
theorem call_rLenZ {X : Cx} : CallR X (.builtin "len") rLenZ := call_len_str
theorem r_rLenZ {z : Str} (hz : z.length ≤ sizeLine) (h : Q (.int z.length) H) : rLenZ [.str z] H Q := ⟨z, rfl, hz, h⟩
def rAddZ : R2 := fun x y H Q => ∃ i j, x = .str i ∧ y = .str j ∧ i.length + j.length ≤ sizeLine ∧ Q (.str (i ++ j)) H
theorem op_addZ {X : Cx} : OpR X (binaryOp .Add) rAddZ := op_add_str
theorem r_addZ {i j : Str} (hz : i.length + j.length ≤ sizeLine) (h : Q (.str (i ++ j)) H) : rAddZ (.str i) (.str j) H Q := ⟨i, j, rfl, rfl, hz, h⟩
def rInC : R2 := fun x y H Q => ∃ (c : Nat) (z : Str), x = .str ⟨#[c]⟩ ∧ y = .str z ∧ Q (.bl (decide (c ∈ z.cps.toList))) H
theorem op_inSign {X : Cx} : OpR X (compareOp .In) rInC := op_in_sign
theorem r_inC {c : Nat} {z : Str} (h : Q (.bl (decide (c ∈ z.cps.toList))) H) : rInC (.str ⟨#[c]⟩) (.str z) H Q := ⟨c, z, rfl, rfl, h⟩
theorem r_eq {x y : V} (hs : scal x y = true) (h : Q (.bl (decide (x = y))) H) : rEq x y H Q := ⟨hs, h⟩
theorem r_ne {x y : V} (hs : scal x y = true) (h : Q (.bl (!decide (x = y))) H) : rNe x y H Q := ⟨hs, h⟩
theorem r_cat {l b : Addr} {xs zs : List V} (hl : H l = some (.lst xs)) (hb : H b = some (.lst zs)) (hz : xs.length + zs.length ≤ sizeLine) (h : ∀ p, H p = none → Q (.ref p) (upd H p (.lst (xs ++ zs)))) : rCat (.ref l) (.ref b) H Q := ⟨l, b, xs, zs, rfl, rfl, hl, hb, hz, h⟩
theorem r_rep {l : Addr} {k : Int} {xs : List V} (hl : H l = some (.lst xs)) (h0 : -(2 ^ 63) ≤ k) (h1 : k < 2 ^ 63) (hz : xs.length * k.toNat ≤ sizeLine) (h : ∀ p, H p = none → Q (.ref p) (upd H p (.lst (List.replicate k.toNat xs).flatten))) : rRep (.ref l) (.int k) H Q := ⟨l, k, xs, rfl, rfl, hl, h0, h1, hz, h⟩
theorem r_append {l : Addr} {xs : List V} {y : V} (hl : H l = some (.lst xs)) (hz : xs.length < sizeLine) (h : Q .non (upd H l (.lst (xs ++ [y])))) : rAppend (.ref l) [y] H Q := ⟨l, xs, y, rfl, rfl, hl, hz, h⟩
theorem r_bm {T : String} {r : V → List V → Hp → VK → Prop} {to : TE} {t : TA} (h : to σ H fun x H1 => tyV K T x H1 ∧ t σ H1 fun xs H2 => r x xs H2 Q) : tBM K T r to t σ H Q := h
theorem r_tyL {p : Addr} {xs : List V} {P : Prop} (hp : H p = some (.lst xs)) (h : P) : tyV K "list" (.ref p) H ∧ P := ⟨.inl ⟨rfl, _, SqL.of hp⟩, h⟩
theorem r_all {a : Addr} {bs : List Bool} (hp : SqL K H a (bs.map V.bl)) (h : Q (.bl (bs.all id)) H) : rAll K [.ref a] H Q := ⟨a, bs, rfl, hp, h⟩
theorem r_any {a : Addr} {bs : List Bool} (hp : SqL K H a (bs.map V.bl)) (h : Q (.bl (bs.any id)) H) : rAny K [.ref a] H Q := ⟨a, bs, rfl, hp, h⟩
theorem call_all {X : Cx} (hc : X.calm = true := by rfl) : CallR X (.builtin "all") (rAll X.K) := cr_all hc
theorem call_any {X : Cx} (hc : X.calm = true := by rfl) : CallR X (.builtin "any") (rAny X.K) := cr_any hc
end
end Th
namespace Th
open PySem PySem.Spec PyProof.Rows L2
/-! ### a def that may lean on it that nothing is being shown (repr of a list, a tuple, a dict) -/
structure FnG (P : Program) (w : World) (K : PySem.W.Frag) (mg : Str → Option Value) (base : Heap) (k : Nat) (f : Addr) (fd : FuncData) (ps : List Str) (sp : Sp) : Prop where
  len : ∀ vs H Q E, sp vs H Q E → vs.length = ps.length
  run : ∀ (A : Around) (outer : List Env) (s : Shared) (H : Hp) (args : Args) (us : List Value) (vs : List V) (Q : VK) (E : XK), Room k A → A.guards = some [] →
    Env0 P w K mg base A outer s H → BindsTo s fd args (ps.zip us) → Vals vs us → sp vs H Q E → codeAny (model P w) A (.call (.ref f) args) (CR CX0 outer P w H s Q E) s
section
variable {P : Program} {w : World} {K : PySem.W.Frag} {mg : Str → Option Value} {base : Heap}
theorem Fun.okG {x qual : Str} {st : Stmt} {f : Addr} {fd : FuncData} {N ps : List Str} {k : Nat} {sp : Sp} (F : Fun K x qual st f fd) (S : FnScope N ps (defScope st)) (hlen : ∀ vs H Q E, sp vs H Q E → vs.length = ps.length)
    (body : ∀ (cdv : Value) (A : Around) (outer : List Env) (s : Shared) (H : Hp) (vs : List V) (Q : VK) (E : XK), Room k (A.deeper (envOfC qual (defScope st) s.heap.objs.size f cdv)) → A.guards = some [] → sp vs H Q E →
      ∃ t, PSs (cxOf CX0 P w K mg base N qual (defScope st) f cdv A outer s H E).nox (defBody st) t ∧ t { nx := fun _ H' => Q .non H', rt := Q } (start N vs) H) : FnG P w K mg base (k + 1) f fd ps sp := by
  obtain ⟨oc, od, kV, doc, pm, an, cdv, ct, osl, e, lk, hcd⟩ := F.ex
  subst e
  constructor
  · exact hlen
  · intro A outer s H args us vs Q E room gd env0 bnd rel wish
    have stands : ∀ b o, base.get? b = some o → s.heap.get? b = some o := fun b o e => (env0.bs b o e).1
    have kin := env0.mod.kin.keeps stands
    have nol := env0.mod.nolimit.keeps stands
    apply codeAny_call_function room.depth (kin _ _ lk) rfl S.co S.gen rfl (PySem.W.codeRec_of kin hcd)
    refine bnd _ _ _ _ (wpAny_newFunctionEnv_cells S.kind ?kinds ?go)
    case kinds =>
      rintro ⟨n, v⟩ hy
      cases S.par n (List.of_mem_zip hy).1 with
      | inl q => exact Or.inl q
      | inr q => exact Or.inr ⟨q, PySem.W.cellsFrom_some _ _ _ (Or.inl q)⟩
    case go =>
      intro env he s1 inside
      subst he
      refine ⟨nol.keeps inside.toInCall.keep, codeAny_func ?_⟩
      obtain ⟨t, derived, wished⟩ := body cdv A outer s H vs Q E (room.deeper _) gd wish
      have J := inv_start (CX := CX0) (E := E) S room.hd env0 (hlen _ _ _ _ wish) rel inside
      refine wpAny_mono (derived.nox.run [] s1 _ H _ J wished) ?_ (fun e s' z => z)
      intro fl s' z
      cases fl with
      | next =>
        obtain ⟨σ', H', J', q⟩ := z
        exact ⟨V.non, H', J'.os, J'.bare, J'.base, J'.hok, rfl, q⟩
      | ret u =>
        obtain ⟨v, σ', H', J', rv, q⟩ := z
        exact ⟨v, H', J'.os, J'.bare, J'.base, J'.hok, rv, q⟩
      | brk =>
        obtain ⟨_, _, _, q⟩ := z
        exact q.elim
      | cont =>
        obtain ⟨_, _, _, q⟩ := z
        exact q.elim
/-- the law's own call -/
theorem lawG {k : Nat} {mb : Str → Option Value} {fa a : Addr} {fd : FuncData} {x : Str} {sp : Sp} {s₁ : Shared} {vs : List Value} {ns : List Int}
    (KX : K.In s₁.heap) (hns : s₁.heap.Ns mainGlobals mg) (hb : s₁.heap.Ns builtinsNs mb) (hbb : ∀ x : Str, x ≠ "__name__" → mb x = bootBuiltins x) (hlim : s₁.heap.NoLimit) (hg : s₁.gens = #[])
    (ha : s₁.heap.get? a = some { cls := .type "list", data := .seq vs.toArray }) (hi : IntsAre vs ns) (hl : ns.length ≤ sizeLine) (room : Room k callerA)
    (F : ∀ base : Heap, K.In base → base.Ns mainGlobals mg → FnG P w K mg base k fa fd [x] sp) (hbind : ∀ (s : Shared) (u : Value), BindsTo s fd ⟨[u], []⟩ [(x, u)])
    (hsp : ∀ H : Hp, Only H → SqL K H a (ns.map V.int) → sp [.ref a] H (fun v _ => v = .bl true) fun _ _ _ => False) :
    codeAny (model P w) callerA (.call (.ref fa) ⟨[.ref a], []⟩) (fun r s' => r = .ok (.ret (.bool true)) ∧ OldK s₁.heap s'.heap ∧ s'.os = s₁.os ∧ AllBare s'.gens) s₁ := by
  have rv : Vals (ns.map V.int) vs := vals_ints hi
  have hlen : vs.length = ns.length := by have := rv.length; rw [List.length_map] at this; omega
  have main : ∀ H : Hp, Only H → SqL K H a (ns.map V.int) → HOk P w H s₁.heap → (∀ b u, H b = some u → b = a) → (∀ u, H a = some u → K.lookup a = none) →
      codeAny (model P w) callerA (.call (.ref fa) ⟨[.ref a], []⟩) (fun r s' => r = .ok (.ret (.bool true)) ∧ OldK s₁.heap s'.heap ∧ s'.os = s₁.os ∧ AllBare s'.gens) s₁ := by
    intro H only sq hok onlyA notK
    have dictFree : ∀ (b : Addr) (o : Obj) (es : Array DictEntry) (ep : Nat), s₁.heap.get? b = some o → o.data = .dict es ep → H b = none := by
      intro b o es ep ho hd
      cases hq : H b with
      | none => rfl
      | some u =>
        rw [onlyA b u hq, ha] at ho
        cases ho
        exact nomatch hd
    have nsB : ∀ {b : Addr} {m : Str → Option Value}, s₁.heap.Ns b m → (hidT s₁.heap H).Ns b m := by
      rintro b m ⟨o, es, ep, ho, hd, rest⟩
      exact ⟨o, es, ep, hidT_get ho (dictFree b o es ep ho hd), hd, rest⟩
    have kB : K.In (hidT s₁.heap H) := by
      intro b o ho
      refine hidT_get (KX b o ho) ?_
      cases hq : H b with
      | none => rfl
      | some u =>
        have hba := onlyA b u hq
        rw [hba] at ho hq
        rw [notK u hq] at ho
        cases ho
    obtain ⟨mc, lim1, lim2⟩ := hlim
    have modl : Mod K mg (hidT s₁.heap H) := ⟨kB, nsB hns, ⟨mb, nsB hb, hbb⟩, ⟨mc, nsB lim1, lim2⟩⟩
    have noFr : ∀ b ∈ frs [], H b = none := fun b z => by cases z
    have E0' : Env0 P w K mg (hidT s₁.heap H) callerA [] s₁ H := ⟨rfl, modl, fun b o e => of_hidT e, by rw [hidT_size]; exact Nat.le_refl _, trivial, noFr, hok, .of_eq hg⟩
    have ran := (F _ kB (nsB hns)).run callerA [] s₁ H ⟨[.ref a], []⟩ [.ref a] [.ref a] _ _ room rfl E0' (hbind s₁ (.ref a)) (.cons rfl .nil) (hsp H only sq)
    refine codeAny_mono ran ?_
    intro r s' z
    cases r with
    | error e => exact False.elim z
    | ok fl =>
      cases fl with
      | ret u =>
        obtain ⟨v, H', os, bare, un, hok', rel, isT⟩ := z
        have isT' : v = .bl true := isT
        rw [isT'] at rel
        have hu : u = Value.bool true := rel
        refine ⟨by rw [hu], OldK.of_keep ?_, os, bare⟩
        intro b o ho
        cases hq : H b with
        | none => exact un.keep b o ho hq (fun z => by cases z) (fun z => by cases z)
        | some u2 =>
          cases only b with
          | inl z => rw [hq] at z; cases z
          | inr z =>
            obtain ⟨ob, xs, z⟩ := z
            have ⟨g1, _⟩ := hok b _ z
            have ⟨g2, _⟩ := hok' b _ (un.frzs b ob _ z)
            rw [ho] at g1
            cases g1
            exact g2
      | next => exact False.elim z
      | brk => exact False.elim z
      | cont => exact False.elim z
  by_cases hk : K.lookup a = none
  · let script : HO := .frz { cls := .type "list", data := .seq vs.toArray } (.lst (ns.map V.int))
    have atA : ∀ b u, (if b = a then some script else none) = some u → b = a ∧ u = script := by
      intro b u z
      by_cases e : b = a
      · rw [if_pos e] at z; cases z; exact ⟨e, rfl⟩
      · rw [if_neg e] at z; cases z
    refine main (fun b => if b = a then some script else none) ?_ (.inl (.inr ⟨_, if_pos rfl⟩)) ?_ (fun b u z => (atA b u z).1) (fun _ _ => hk)
    · intro b
      by_cases e : b = a
      · exact .inr ⟨_, _, if_pos e⟩
      · exact .inl (if_neg e)
    · intro b u z
      obtain ⟨e1, e2⟩ := atA b u z
      rw [e1, e2]
      exact ⟨ha, by rw [List.length_map]; exact hl, vs, _, rv, ha⟩
  · obtain ⟨o, ho⟩ : ∃ o, K.lookup a = some o := by
      cases q : K.lookup a with
      | none => exact absurd q hk
      | some o => exact ⟨o, rfl⟩
    have same := KX a o ho
    rw [ha] at same
    cases same
    exact main (fun _ => none) (fun _ => .inl rfl) (.inr ⟨_, vs.toArray, _, ho, rfl, rfl, rfl, by rw [List.size_toArray, hlen]; exact hl, rv⟩) (fun b u z => nomatch z) (fun b u z => nomatch z) (fun u z => nomatch z)
end
/-- the goal that k_head leaves, from the law's promise -/
theorem walkG {l : PySem.W.OpenLaw} {n k : Nat} {q : Program} {loose : List Str} {XP : (Str → Option Value) → Heap → Prop} {YP : World → Heap → Prop} {d : DefRec} {K : Params → PySem.W.Frag} {sp : World → Sp} {x : Str}
    (hn : l.most = some n) (hn2 : n ≤ sizeLine) (hdf : d.params.defaults = []) (room : Room k callerA) (hY : ∀ (w : World) (h : Heap), YP w h → (K w.params).In h)
    (F : ∀ (w : World) (mg : Str → Option Value) (fa : Addr) (h : Heap), (K w.params).In h → h.Ns mainGlobals mg → mg d.name = some (.ref fa) →
      ∃ fd : FuncData, (∀ (s : Shared) (u : Value), BindsTo s fd ⟨[u], []⟩ [(x, u)]) ∧ ∀ base : Heap, (K w.params).In base → base.Ns mainGlobals mg → FnG l.prog w (K w.params) mg base k fa fd [x] (sp w))
    (hsp : ∀ (w : World) (H : Hp) (a : Addr) (ns : List Int), ns.length ≤ n → Only H → SqL (K w.params) H a (ns.map V.int) → sp w [.ref a] H (fun v _ => v = .bl true) fun _ _ _ => False) :
    PySem.W.WalkO q loose XP YP l.row.toRowW d [] (fun f vs => PySem.call f vs) := by
  apply Att.attach_call hn hdf
  intro w s₀ s₁ mg mb fa o pm cd doc a vs ns G Y ho hd hcd hmg hobj hints hlen hg
  obtain ⟨fd, bnd, every⟩ := F w mg fa _ (hY w _ Y) G.T.g hmg
  exact lawG (hY w _ Y) G.T.g G.T.b G.T.builtins G.T.nolimit hg hobj hints (Nat.le_trans hlen hn2) room every bnd (fun H only sq => hsp w H a ns hlen only sq)
/-! ### repr of data -/
def rRepr (K : PySem.W.Frag) : List V → Hp → VK → Prop := fun xs H Q => ∃ a d, xs = [.ref a] ∧ Dp K H (.ref a) d ∧ d.showable = true ∧ d.hasDict = false ∧ d.depth < 60 ∧ d.shown.length ≤ sizeLine ∧ Q (.str d.shown) H
theorem call_rRepr {X : Cx} (gd : X.A.guards = some []) (hu : X.A.units + 64 < cLine) : CallR X (.builtin "repr") (rRepr X.K) := by
  intro pins s σ H xs us Q I r h
  obtain ⟨a, d, rfl, hd, h1, h2, h3, h4, q⟩ := h
  obtain ⟨u, rfl, rx⟩ := vals1 r
  obtain ⟨as, rd⟩ := Dp.reads I d _ u hd rx
  have hu' : u = Value.ref a := rx
  subst hu'
  refine repr_of_reads' rd h1 (fun z => by rw [h2] at z; cases z) gd (by omega) (fun b o e => e) (fun h' t tk kept => ?_) h4
  exact ⟨.str d.shown, H, I.kept kept, ⟨_, rfl⟩, q⟩
theorem r_repr {K : PySem.W.Frag} {H : Hp} {Q : VK} {a : Addr} {d : PyData} (hd : Dp K H (.ref a) d) (h1 : d.showable = true) (h2 : d.hasDict = false) (h3 : d.depth < 60) (h4 : d.shown.length ≤ sizeLine) (h : Q (.str d.shown) H) : rRepr K [.ref a] H Q := ⟨a, d, rfl, hd, h1, h2, h3, h4, h⟩
/-! ### a text times an int -/
theorem fold_rep (a : Array Nat) : ∀ (n : Nat) (acc : Array Nat), ((List.replicate n a).foldl (· ++ ·) acc).toList = acc.toList ++ (List.replicate n a.toList).flatten
  | 0, acc => by simp
  | n + 1, acc => by
    rw [List.replicate_succ, List.foldl_cons, fold_rep a n, List.replicate_succ, List.flatten_cons, Array.toList_append, List.append_assoc]
theorem fold_rep_size (a : Array Nat) (n : Nat) : ((List.replicate n a).foldl (· ++ ·) #[]).size = n * a.size := by
  have h := congrArg List.length (fold_rep a n #[])
  simpa using h
def repZ (z : Str) (k : Int) : Str := if k < 1 then Str.empty else if (k == 1 || z.length == 0) = true then z else ⟨(List.replicate k.toNat z.cps).foldl (· ++ ·) #[]⟩
def rMulZ : R2 := fun x y H Q => ∃ z k, x = .str z ∧ y = .int k ∧ z.length ≤ 1000 ∧ -(2 ^ 62) ≤ k ∧ k ≤ 5000 ∧ Q (.str (repZ z k)) H
theorem op_mulS {X : Cx} : OpR X (binaryOp .Mult) rMulZ := by
  intro pins s σ H x y v u Q I rx ry h
  obtain ⟨z, k, rfl, rfl, hz, h0, h1, q⟩ := h
  obtain ⟨t, rfl⟩ := rx
  obtain ⟨t', rfl⟩ := ry
  have hzi : (z.length : Int) ≤ 1000 := by omega
  refine PySem.P.mul_str ?_ (fun hk _ => ?_) (fun hk _ => ?_) ?_
  · rw [decide_eq_false (by omega : ¬ k < -(2 ^ 63 : Int)), decide_eq_false (by omega : ¬ k ≥ 2 ^ 63)]; rfl
  · intro hbig
    have hd : (5000 : Int) ≤ (2 ^ 63 - 1) / k := by
      rw [Int.le_ediv_iff_mul_le (by omega)]
      have : (5000 : Int) * k ≤ 5000 * 5000 := Int.mul_le_mul_of_nonneg_left h1 (by decide)
      omega
    omega
  · unfold Builtin.Str.tooLong
    rw [decide_eq_false]
    have hk5 : k.toNat ≤ 5000 := by omega
    have := Nat.mul_le_mul hz hk5
    rw [sizeLine_eq]
    omega
  · unfold repZ at q
    by_cases c1 : k < 1
    · rw [if_pos c1] at q ⊢
      exact ⟨by decide, ⟨.str _, H, I.tok _, ⟨_, rfl⟩, q⟩⟩
    · rw [if_neg c1] at q ⊢
      by_cases c2 : (k == 1 || z.length == 0) = true
      · rw [if_pos c2] at q ⊢
        exact ⟨.str z, H, I, ⟨t, rfl⟩, q⟩
      · rw [if_neg c2] at q ⊢
        refine ⟨?_, ⟨.str _, H, I.tok _, ⟨_, rfl⟩, q⟩⟩
        show ((List.replicate k.toNat z.cps).foldl (· ++ ·) #[]).size ≤ sizeLine
        rw [fold_rep_size]
        have hk5 : k.toNat ≤ 5000 := by omega
        have hz' : z.cps.size ≤ 1000 := hz
        have := Nat.mul_le_mul hk5 hz'
        rw [sizeLine_eq]
        omega
theorem repZ_list (z : Str) (k : Int) : (repZ z k).cps.toList = (List.replicate k.toNat z.cps.toList).flatten := by
  unfold repZ
  by_cases c1 : k < 1
  · rw [if_pos c1, show k.toNat = 0 by omega]; rfl
  · rw [if_neg c1]
    by_cases c2 : (k == 1 || z.length == 0) = true
    · rw [if_pos c2]
      simp only [Bool.or_eq_true, beq_iff_eq] at c2
      rcases c2 with c2 | c2
      · subst c2; simp
      · have e : z.cps.toList = [] := by
          have : z.cps.size = 0 := c2
          simpa using this
        rw [e]; simp
    · rw [if_neg c2]
      show ((List.replicate k.toNat z.cps).foldl (· ++ ·) #[]).toList = _
      rw [fold_rep]; rfl
theorem repZ_len (z : Str) (k : Int) : (repZ z k).length = k.toNat * z.length := by
  have h := congrArg List.length (repZ_list z k)
  simpa [Str.length] using h
theorem r_mulZ {H : Hp} {Q : VK} {z : Str} {k : Int} (hz : z.length ≤ 1000) (h0 : -(2 ^ 62) ≤ k) (h1 : k ≤ 5000) (h : Q (.str (repZ z k)) H) : rMulZ (.str z) (.int k) H Q := ⟨z, k, rfl, rfl, hz, h0, h1, h⟩
/-! ### comprehensions without a test, whose element only reads (and makes) -/
theorem same_new {H : Hp} {p : Addr} {o : HO} (h : H p = none) : Same H (upd H p o) := fun b u e => by rw [upd_ne (ne_of_none e h)]; exact e
theorem walk_strC {z : Str} : Walk (Its z) (z.cps.toList.map fun c => V.str ⟨#[c]⟩).length (fun _ => True) (YAt (z.cps.toList.map fun c => V.str ⟨#[c]⟩)) := by
  have e : (z.cps.toList.map fun c => V.str ⟨#[c]⟩).length = z.cps.size := by simp
  rw [e]
  refine walk_str.mono (fun _ h => h) ?_
  rintro i H x H' hi _ ⟨e1, c, hc, rfl⟩
  refine ⟨e1, ?_⟩
  rw [List.getElem?_map, Array.getElem?_toList, hc]
  rfl
theorem lc_map {α : Type} {J : It} {cs : List α} {enc f : α → V} {G : Hp → Prop} (w : Walk J (cs.map enc).length G (YAt (cs.map enc))) {j : Nat} {vs : List Nat} {σ : L2.St} {H1 : Hp} {D : Addr} {te : TE} {Qd : Hp → Prop}
    (hD : H1 D = none) (hz : cs.length < sizeLine) (hG : ∀ H', Same H1 H' → G H') (hw : ∀ x, wipe ((wipe σ vs).set j (some x)) vs = wipe σ vs)
    (he : ∀ c ∈ cs, ∀ H', Same H1 H' → ∀ Q : VK, (∀ H2, Same H' H2 → Q (f c) H2) → te ((wipe σ vs).set j (some (enc c))) H' Q)
    (hd : ∀ H', Same H1 H' → H' D = some (.lst (cs.map f)) → Qd H') :
    ∃ W : Nat → Nat → Hp → Prop, (∃ m, W 0 m (upd H1 D (.lst []))) ∧ ∀ i m H, W i m H →
      (J.stop i H ∧ Qd H) ∨ (J.go i H ∧ ∃ Nx : Hp → Prop, (∀ H', Nx H' → ∃ m', m' < m ∧ W (i + 1) m' H') ∧ ∀ x H', J.yld i H x H' → gName j x (wipe σ vs) H' fun σ2 H2 => wipe σ2 vs = wipe σ vs ∧ tYes σ2 H2 fun b H3 =>
        if b = true then te σ2 H3 fun y H4 => ∃ acc, H4 D = some (.lst acc) ∧ acc.length < sizeLine ∧ Nx (upd H4 D (.lst (acc ++ [y]))) else Nx H3) := by
  refine lc_it w (fun i H => Same H1 H ∧ H D = some (.lst ((cs.take i).map f))) ⟨same_new hD, by rw [upd_same]; rfl⟩ (fun i H _ p => hG H p.1) ?_ ?_
  · rintro i x H H' hi ⟨s1, hl⟩ ⟨rfl, hx⟩
    rw [List.length_map] at hi
    have hx' : x = enc cs[i] := by
      rw [List.getElem?_map, List.getElem?_eq_getElem hi] at hx
      exact (Option.some.inj hx).symm
    subst hx'
    refine ⟨hw _, ?_⟩
    unfold tYes
    dsimp only
    rw [if_pos rfl]
    refine he cs[i] (List.getElem_mem hi) H' s1 _ ?_
    intro H2 s2
    refine ⟨_, s2 _ _ hl, ?_, ?_, ?_⟩
    · rw [List.length_map, List.length_take]; omega
    · intro b o e
      have nb : b ≠ D := ne_of_none e hD
      rw [upd_ne nb]
      exact s2 _ _ (s1 _ _ e)
    · rw [upd_same, ← List.take_append_getElem hi, List.map_append]
      rfl
  · rintro H ⟨s1, hl⟩
    rw [List.length_map, List.take_length] at hl
    exact hd H s1 hl
/-! ### isinstance of values of built-in types -/
theorem r_isi {K : PySem.W.Frag} {H : Hp} {Q : VK} {x : V} {T n : String} (b : Bool) (ht : TyX K H x (.type T)) (hk : kitB T n = some b) (h : Q (.bl b) H) : rIsi K [x, .ty n] H Q := ⟨x, .ty n, .type T, .type n, b, rfl, .ty n, ht, kit_ty hk, h⟩
theorem r_isiT2 {K : PySem.W.Frag} {H : Hp} {Q : VK} {x : V} {T n m : String} {tp : Addr} (b c : Bool) (hT : H tp = some (.tup [.ty n, .ty m])) (ht : TyX K H x (.type T)) (hk : kitB T n = some b) (hk2 : kitB T m = some c) (h : Q (.bl (b || c)) H) : rIsiT K [x, .ref tp] H Q := by
  refine ⟨x, tp, _, .type T, [.type n, .type m], (b || c), rfl, hT, .cons (.ty n) (.cons (.ty m) .nil), ht, ?_, h⟩
  refine kitAny_cons (b := b) (kit_ty hk) (fun e => ?_) (fun e => by rw [e]; rfl)
  refine kitAny_cons (b := c) (kit_ty hk2) (fun e2 => ?_) (fun e2 => by rw [e2]; simp)
  rw [e, e2]
  exact kitAny_nil
theorem same_tyB {K : PySem.W.Frag} {H H' : Hp} {x : V} {t : Value} (e : Same H H') (h : TyX K H x t) : TyX K H' x t := by
  cases h with
  | base b =>
    cases b with
    | non => exact .base .non
    | bl y => exact .base (.bl y)
    | int y => exact .base (.int y)
    | str y => exact .base (.str y)
    | flt y => exact .base (.flt y)
    | lst z => exact .base (.lst (e _ _ z))
    | frz z => exact .base (.frz (e _ _ z))
    | tup z => exact .base (.tup (e _ _ z))
    | dK z => exact .base (.dK (e _ _ z))
    | dT z => exact .base (.dT (e _ _ z))
    | ins z cl ha hn htk hm => exact .base (.ins (e _ _ z) cl ha hn htk hm)
  | byt y => exact .byt y
  | set z => exact .set (e _ _ z)
  | kList z c => exact .kList z c
  | kTuple z c => exact .kTuple z c
  | kDict z c => exact .kDict z c
  | fTuple z => exact .fTuple (e _ _ z)
  | fDict z => exact .fDict (e _ _ z)
theorem r_r1 {H : Hp} {Q : VK} {k : V → Hp → VK → Prop} {x : V} (h : k x H Q) : r1 k [x] H Q := h
theorem r_bytesL {K : PySem.W.Frag} {H : Hp} {Q : VK} {p : Addr} {ns : List Int} (hp : SqL K H p (ns.map V.int)) (hn : ∀ n ∈ ns, 0 ≤ n ∧ n < 256) (h : Q (.byt (byteArr ns)) H) : kByts K (.ref p) H Q := .inr ⟨p, ns, rfl, hp, hn, h⟩
/-! ### walks -/
theorem r_lc {wi : TI} {g : TG} {tt : TT} {te : TE} {vs : List Nat} {σ : L2.St} {H : Hp} {Q : VK} (h : wi σ H fun J H1 => ∀ D, H1 D = none → ∃ W : Nat → Nat → Hp → Prop, (∃ m, W 0 m (upd H1 D (.lst []))) ∧ ∀ i m H, W i m H →
  (J.stop i H ∧ Q (.ref D) H) ∨ (J.go i H ∧ ∃ Nx : Hp → Prop, (∀ H', Nx H' → ∃ m', m' < m ∧ W (i + 1) m' H') ∧ ∀ x H', J.yld i H x H' → g x (wipe σ vs) H' fun σ2 H2 => wipe σ2 vs = wipe σ vs ∧ tt σ2 H2 fun b H3 =>
    if b = true then te σ2 H3 fun y H4 => ∃ acc, H4 D = some (.lst acc) ∧ acc.length < sizeLine ∧ Nx (upd H4 D (.lst (acc ++ [y]))) else Nx H3)) : tLc wi g tt te vs σ H Q := h
theorem r_for {wi : TI} {g : TG} {tb : TS} {D : Ends} {σ : L2.St} {H : Hp} (h : wi σ H fun J H1 => ∃ W : Nat → Nat → L2.St → Hp → Prop, (∃ m, W 0 m σ H1) ∧ ∀ i m σ H, W i m σ H →
  (J.stop i H ∧ D.nx σ H) ∨ (J.go i H ∧ ∃ N : L2.St → Hp → Prop, (∀ σ' H', N σ' H' → ∃ m', m' < m ∧ W (i + 1) m' σ' H') ∧ ∀ x H', J.yld i H x H' → g x σ H' fun σ2 H2 => tb { D with nx := N, ct := N, bk := D.nx } σ2 H2)) : tFor wi g tb D σ H := h
theorem r_iStr {te : TE} {σ : L2.St} {H : Hp} {R : It → Hp → Prop} (h : te σ H fun v H1 => ∃ x, v = .str x ∧ R (Its x) H1) : iStr te σ H R := h
theorem r_strE {z : Str} {P : Str → Prop} (h : P z) : ∃ x, V.str z = .str x ∧ P x := ⟨z, rfl, h⟩
theorem r_iList {K : PySem.W.Frag} {tl : TE} {σ : L2.St} {H : Hp} {R : It → Hp → Prop} (h : tl σ H fun x H1 => ∃ a, x = .ref a ∧ (∃ xs, SqL K H1 a xs) ∧ R (Itl K a) H1) : iList K tl σ H R := h
theorem r_listE {K : PySem.W.Frag} {H : Hp} {a : Addr} {xs : List V} {P : Addr → Prop} (hp : SqL K H a xs) (h : P a) : ∃ b, V.ref a = .ref b ∧ (∃ xs, SqL K H b xs) ∧ P b := ⟨a, rfl, ⟨xs, hp⟩, h⟩
theorem r_iRng1 {ta : TA} {σ : L2.St} {H : Hp} {R : It → Hp → Prop} (h : ta σ H fun vs H1 => ∃ j : Int, vs = [.int j] ∧ -(2 ^ 62) ≤ j ∧ j < 2 ^ 62 ∧ R (Itr 0 j.toNat) H1) : iRng1 ta σ H R := h
theorem r_rngE {j : Int} {P : Int → Prop} (h0 : -(2 ^ 62) ≤ j) (h1 : j < 2 ^ 62) (h : P j) : ∃ i : Int, [V.int j] = [.int i] ∧ -(2 ^ 62) ≤ i ∧ i < 2 ^ 62 ∧ P i := ⟨j, rfl, h0, h1, h⟩
/-! ### texts cut at a sign; in a written tuple -/
def rSplit : V → List V → Hp → VK → Prop := fun x xs H Q => ∃ a b, x = .str a ∧ xs = [.str b] ∧ (b.length == 0) = false ∧ a.length + 2 ≤ sizeLine ∧ rNewStrs (Txt.split a b) H Q
theorem pe_splitN {X : Cx} {E : Expr} {to te : TE} (hst : PE X E (tM1 (fun x xs H Q => ∃ a b, x = .str a ∧ xs = [.str b] ∧ (b.length == 0) = false ∧ a.length + 2 ≤ sizeLine ∧ rNewStrs (Txt.split a b) H Q) to te)) : PE X E (tM1 rSplit to te) := hst
section
variable {K : PySem.W.Frag} {σ : L2.St} {H : Hp} {Q : VK}
theorem r_m1 {r : V → List V → Hp → VK → Prop} {to te : TE} (h : to σ H fun x H1 => (∃ a, x = .str a) ∧ te σ H1 fun y H2 => r x [y] H2 Q) : tM1 r to te σ H Q := h
theorem r_isZ {z : Str} {P : Prop} (h : P) : (∃ a, V.str z = .str a) ∧ P := ⟨⟨z, rfl⟩, h⟩
theorem r_split {a b : Str} (hb : (b.length == 0) = false) (ha : a.length + 2 ≤ sizeLine) (h : ∀ p, H p = none → Q (.ref p) (upd H p (.lst ((Txt.split a b).map V.str)))) : rSplit (.str a) [.str b] H Q := ⟨a, b, rfl, rfl, hb, ha, h⟩
theorem r_inT {p : Addr} {x : V} {xs : List V} (hp : SqT K H p xs) (hx : flatV x = true) (ha : xs.all flatV = true) (h : Q (.bl (inV x xs)) H) : rIn K false x (.ref p) H Q := ⟨p, xs, rfl, .inr hp, hx, ha, h⟩
theorem r_inL {p : Addr} {x : V} {xs : List V} (hp : SqL K H p xs) (hx : flatV x = true) (ha : xs.all flatV = true) (h : Q (.bl (inV x xs)) H) : rIn K false x (.ref p) H Q := ⟨p, xs, rfl, .inl hp, hx, ha, h⟩
theorem r_slS {z : Str} {lo hi : Option Int} (hz : z.length ≤ sizeLine) (h : Q (.str (cutS z lo hi)) H) : rSlS (.str z) lo hi H Q := ⟨z, rfl, hz, h⟩
theorem r_sl {r : V → Option Int → Option Int → Hp → VK → Prop} {te : TE} {tl th : TO} (h : te σ H fun x H1 => tl σ H1 fun l H2 => th σ H2 fun u H3 => r x l u H3 Q) : tSl r te tl th σ H Q := h
theorem r_noPart {Q : Option Int → Hp → Prop} (h : Q none H) : tNoPart σ H Q := h
theorem r_part {t : TE} {Q : Option Int → Hp → Prop} (h : t σ H fun x H1 => ∃ i, x = .int i ∧ Q (some i) H1) : tPart t σ H Q := h
theorem r_partE {i : Int} {P : Int → Prop} (h : P i) : ∃ j, V.int i = .int j ∧ P j := ⟨i, rfl, h⟩
theorem r_ixS {z : Str} {i : Int} {c : Nat} (hz : z.length ≤ sizeLine) (hc : atI z.cps.toList i = some c) (h : Q (.str ⟨#[c]⟩) H) : rIxS (.str z) (.int i) H Q := ⟨z, i, c, rfl, rfl, hz, hc, h⟩
end
/-! ### rules that lean on the written part, with it told -/
theorem op_inK {X : Cx} (K : PySem.W.Frag) (h : X.K = K := by rfl) : OpR X (compareOp .In) (rIn K false) := h ▸ op_in_seq
theorem op_notInK {X : Cx} (K : PySem.W.Frag) (h : X.K = K := by rfl) : OpR X (compareOp .NotIn) (rIn K true) := h ▸ op_notIn_seq
theorem ix_listK {X : Cx} (K : PySem.W.Frag) (h : X.K = K := by rfl) : IxR X (rIxL K) := h ▸ ix_list
theorem ix_tupK {X : Cx} (K : PySem.W.Frag) (h : X.K = K := by rfl) : IxR X (rIxT K) := h ▸ ix_tup
theorem call_lenK {X : Cx} (K : PySem.W.Frag) (h : X.K = K := by rfl) : CallR X (.builtin "len") (rLenQ K) := h ▸ call_rLenQ
theorem call_isiK1 {X : Cx} (K : PySem.W.Frag) (h : X.K = K := by rfl) : CallR X (.builtin "isinstance") (rIsi K) := h ▸ call_isi
theorem call_isiK2 {X : Cx} (K : PySem.W.Frag) (h : X.K = K := by rfl) : CallR X (.builtin "isinstance") (rIsiT K) := h ▸ call_isiT
theorem call_allK {X : Cx} (K : PySem.W.Frag) (hc : X.calm = true := by rfl) (h : X.K = K := by rfl) : CallR X (.builtin "all") (rAll K) := h ▸ cr_all hc
theorem call_anyK {X : Cx} (K : PySem.W.Frag) (hc : X.calm = true := by rfl) (h : X.K = K := by rfl) : CallR X (.builtin "any") (rAny K) := h ▸ cr_any hc
theorem call_reprK {X : Cx} (K : PySem.W.Frag) (gd : X.A.guards = some []) (hu : X.A.units + 64 < cLine) (h : X.K = K := by rfl) : CallR X (.builtin "repr") (rRepr K) := h ▸ call_rRepr gd hu
theorem sl_listK {X : Cx} (K : PySem.W.Frag) (h : X.K = K := by rfl) : SlR X (rSlL K) := h ▸ sl_list
/-! ### two ways to one int, joined -/
theorem r_joinI {σ σ' : L2.St} {H : Hp} {Q : VK} {ta tb : TE} {p : Prop} [Decidable p] (P : Int → Prop) (k : ∀ c : Int, P c → Q (.int c) H) (h1 : ∀ Q' : VK, (∀ c : Int, P c → Q' (.int c) H) → p → ta σ H Q') (h2 : ∀ Q' : VK, (∀ c : Int, P c → Q' (.int c) H) → ¬ p → tb σ' H Q') : if decide p = true then ta σ H Q else tb σ' H Q :=
  r_iteD (h1 Q k) (h2 Q k)
/-! ### several names at once; slices; whiles -/
section
variable {K : PySem.W.Frag} {σ : L2.St} {H : Hp} {Q : VK} {D : Ends}
theorem r_par {i j : Nat} {ta : TA} (h : ta σ H fun vs H1 => ∃ v w, vs = [v, w] ∧ D.nx ((σ.set i (some v)).set j (some w)) H1) : tPar i j ta D σ H := h
theorem r_pair {v w : V} {P : V → V → Prop} (h : P v w) : ∃ a b, [v, w] = [a, b] ∧ P a b := ⟨v, w, rfl, h⟩
theorem r_par3 {i j l : Nat} {ta : TA} (h : ta σ H fun vs H1 => ∃ u v w, vs = [u, v, w] ∧ D.nx (((σ.set i (some u)).set j (some v)).set l (some w)) H1) : tPar3 i j l ta D σ H := h
theorem r_trip {u v w : V} {P : V → V → V → Prop} (h : P u v w) : ∃ a b c, [u, v, w] = [a, b, c] ∧ P a b c := ⟨u, v, w, rfl, h⟩
theorem r_gtup {n : Nat} {t : TGs} {p : Addr} {xs : List V} {Q : L2.St → Hp → Prop} (hp : SqT K H p xs) (hn : xs.length = n) (h : t xs σ H Q) : gTup K n t (.ref p) σ H Q := ⟨p, xs, rfl, hp, hn, h⟩
theorem r_gcons {t : TG} {u : TGs} {v : V} {r : List V} {Q : L2.St → Hp → Prop} (h : t v σ H fun σ' H' => u r σ' H' Q) : gCons t u (v :: r) σ H Q := ⟨v, r, rfl, h⟩
theorem r_gnil {Q : L2.St → Hp → Prop} (h : Q σ H) : gNil [] σ H Q := ⟨rfl, h⟩
theorem r_slL {p : Addr} {xs : List V} {lo hi : Option Int} (hp : SqL K H p xs) (h : ∀ q, H q = none → Q (.ref q) (upd H q (.lst (cutV xs lo hi)))) : rSlL K (.ref p) lo hi H Q := ⟨p, xs, rfl, hp, h⟩
theorem r_iTup {tl : TE} {R : It → Hp → Prop} (h : tl σ H fun x H1 => ∃ a, x = .ref a ∧ (∃ xs, SqT K H1 a xs) ∧ R (Itt K a) H1) : iTup K tl σ H R := h
theorem r_tupE {a : Addr} {xs : List V} {P : Addr → Prop} (hp : SqT K H a xs) (h : P a) : ∃ b, V.ref a = .ref b ∧ (∃ xs, SqT K H b xs) ∧ P b := ⟨a, rfl, ⟨xs, hp⟩, h⟩
end
theorem walk_rangeN {n : Nat} : Walk (Itr 0 n) ((List.range n).map fun (i : Nat) => V.int (i : Int)).length (fun _ => True) (YAt ((List.range n).map fun (i : Nat) => V.int (i : Int))) := by
  have e : ((List.range n).map fun (i : Nat) => V.int (i : Int)).length = n := by simp
  rw [e]
  refine (walk_range (lo := 0) (n := n)).mono (fun _ h => h) ?_
  rintro i H x H' hi _ ⟨e1, e2⟩
  refine ⟨e1, ?_⟩
  rw [List.getElem?_map, List.getElem?_range hi, e2]
  simp
/-- a while by a number that falls; the body is read for any next N -/
theorem r_while {c : TT} {tb : TS} {D : Ends} {σ : L2.St} {H : Hp} (W : Nat → L2.St → Hp → Prop) (m0 : Nat) (h0 : W m0 σ H)
    (hs : ∀ m σ H, W m σ H → ∀ N : L2.St → Hp → Prop, (∀ m' σ' H', m' < m → W m' σ' H' → N σ' H') → c σ H fun b H1 => if b = true then tb { D with nx := N, ct := N, bk := D.nx } σ H1 else D.nx σ H1)
    (mono : ∀ σ H (Q Q' : Bool → Hp → Prop), (∀ b H1, Q b H1 → Q' b H1) → c σ H Q → c σ H Q') : tWhile c tb D σ H := by
  refine ⟨W, ⟨m0, h0⟩, fun m σ H w => ?_⟩
  refine mono σ H _ _ (fun b H1 q => ?_) (hs m σ H w (fun σ' H' => ∃ m', m' < m ∧ W m' σ' H') (fun m' σ' H' l w' => ⟨m', l, w'⟩))
  cases b with
  | true =>
    rw [if_pos rfl] at q ⊢
    exact ⟨_, fun σ' H' z => z, q⟩
  | false =>
    rw [if_neg Bool.false_ne_true] at q ⊢
    exact q
theorem pg_tupK {X : Cx} (K : PySem.W.Frag) {T : Expr} {n : Nat} {t : TGs} (h : PG X T (gTup X.K n t)) (hK : X.K = K := by rfl) : PG X T (gTup K n t) := hK ▸ h
def rLenY : List V → Hp → VK → Prop := fun xs H Q => ∃ y : Array UInt8, xs = [.byt y] ∧ y.size ≤ sizeLine ∧ Q (.int y.size) H
theorem call_rLenY {X : Cx} : CallR X (.builtin "len") rLenY := fun pins s σ H xs us Q I r h => by
  obtain ⟨y, rfl, hz, q⟩ := h
  exact call_len pins s σ H _ us Q I r ⟨.byt y, y.size, rfl, (show y.size ≤ sizeLine ∧ y.size = y.size from ⟨hz, rfl⟩), q⟩
theorem r_rLenY {H : Hp} {Q : VK} {y : Array UInt8} (hz : y.size ≤ sizeLine) (h : Q (.int y.size) H) : rLenY [.byt y] H Q := ⟨y, rfl, hz, h⟩
/-! ### defs with keyword-only parameters; attributes -/
theorem funD_ok0 {P : Program} {w : World} {K : PySem.W.Frag} {mg : Str → Option Value} {base : Heap} {x qual : Str} {params : Arguments} {body : List Stmt} {scope : Scope} {dvs : List V} {kws : List (Str × V)} {f : Addr} {fd : FuncData} {N ps : List Str} {k : Nat} {sp : Sp}
    (F : FunD K x qual params body scope dvs kws f fd) (S : FnScope N ps scope) (len : ∀ vs H Q E, sp vs H Q E → vs.length = ps.length)
    (told : ∀ (cdv : Value) (A : Around) (outer : List Env) (s : Shared) (H : Hp) (vs : List V) (Q : VK) (E : XK), Room k (A.deeper (envOfC qual scope s.heap.objs.size f cdv)) → sp vs H Q E →
      ∃ t, PSs (cxOf CX0 P w K mg base N qual scope f cdv A outer s H E).nox body t ∧ t { nx := fun _ H' => Q .non H', rt := Q } (start N vs) H) : FnOk P w K mg base CX0 (k + 1) f fd ps sp :=
  F.ok S len fun cdv A outer s H vs Q E hr h => by
    obtain ⟨t, d, q⟩ := told cdv A outer s H vs Q E hr h
    exact ⟨t, d.nox, q⟩
section
variable {K : PySem.W.Frag} {σ : L2.St} {H : Hp} {Q : VK} {D : Ends}
theorem r_sfld {ta tv : TE} {f : Str} (h : tv σ H fun y H1 => ta σ H1 fun x H2 => ∃ a C dx fs, x = .ref a ∧ H2 a = some (.ins C dx fs) ∧ Cls K C ∧ NoAttr K C f ∧ fs.length < 1000 ∧ D.nx σ (upd H2 a (.ins C dx (putF f y fs)))) : sFld K ta tv f D σ H := h
theorem r_sfldE {p C dx : Addr} {fs : List (Str × V)} {f : Str} {R : Addr → Addr → Addr → List (Str × V) → Prop} (hp : H p = some (.ins C dx fs)) (hc : Cls K C) (hn : NoAttr K C f) (hl : fs.length < 1000) (h : R p C dx fs) :
    ∃ a C dx fs, V.ref p = .ref a ∧ H a = some (.ins C dx fs) ∧ Cls K C ∧ NoAttr K C f ∧ fs.length < 1000 ∧ R a C dx fs := ⟨p, C, dx, fs, rfl, hp, hc, hn, hl, h⟩
theorem r_fld {te : TE} {f : Str} (h : te σ H fun x H1 => ∃ a C dx fs v, x = .ref a ∧ H1 a = some (.ins C dx fs) ∧ Cls K C ∧ NoAttr K C f ∧ fs.lookup f = some v ∧ Q v H1) : tFld K te f σ H Q := h
theorem r_fldE {p C dx : Addr} {fs : List (Str × V)} {f : Str} {v : V} {R : V → Prop} (hp : H p = some (.ins C dx fs)) (hc : Cls K C) (hn : NoAttr K C f) (hl : fs.lookup f = some v) (h : R v) :
    ∃ a C dx fs v, V.ref p = .ref a ∧ H a = some (.ins C dx fs) ∧ Cls K C ∧ NoAttr K C f ∧ fs.lookup f = some v ∧ R v := ⟨p, C, dx, fs, v, rfl, hp, hc, hn, hl, h⟩
end
/-! ### f-strings; repr of an own object -/
def tJoin (ts : List TE) : TE := fun σ H Q => tJs ts Str.empty σ H fun out H1 => Q (.str out) H1
theorem pe_joinN {X : Cx} {E : Expr} {ts : List TE} (h : PE X E (fun σ H Q => tJs ts Str.empty σ H fun out H1 => Q (.str out) H1)) : PE X E (tJoin ts) := h
section
variable {K : PySem.W.Frag} {σ : L2.St} {H : Hp} {Q : VK}
theorem r_join {ts : List TE} (h : tJs ts Str.empty σ H fun out H1 => Q (.str out) H1) : tJoin ts σ H Q := h
theorem r_jnil {acc : Str} {Q : Str → Hp → Prop} (h : Q acc H) : tJs [] acc σ H Q := h
theorem r_jcons {t : TE} {ts : List TE} {acc : Str} {Q : Str → Hp → Prop} (h : t σ H fun x H1 => ∃ y : Str, x = .str y ∧ (acc ++ y).length ≤ sizeLine ∧ tJs ts (acc ++ y) σ H1 Q) : tJs (t :: ts) acc σ H Q := h
theorem r_jE {y acc : Str} {P : Str → Prop} (hz : (acc ++ y).length ≤ sizeLine) (h : P (acc ++ y)) : ∃ u : Str, V.str y = .str u ∧ (acc ++ u).length ≤ sizeLine ∧ P (acc ++ u) := ⟨y, rfl, hz, h⟩
theorem r_fmtR {te : TE} (h : te σ H fun x H1 => (∃ y : Str, x = .str y ∧ (reprText y).length ≤ sizeLine ∧ Q (.str (reprText y)) H1) ∨ ∃ i : Int, x = .int i ∧ i.natAbs.log2 < 1920 ∧ Q (.str (toString i)) H1) : tFmtR te σ H Q := h
end
/-- repr(o), o of a class with a __repr__ of its own -/
def rReprO (C : Addr) (sp : Sp) : List V → Hp → VK → Prop := fun xs H Q => ∃ a dx fs, xs = [.ref a] ∧ H a = some (.ins C dx fs) ∧ ∀ E, sp [.ref a] H (fun v H' => ∃ z, v = .str z ∧ Q (.str z) H') E
theorem call_rReprO {X : Cx} {C f : Addr} {fd : FuncData} {k : Nat} {sp : Sp} (hs : PySem.W.findIn X.K (.ref C) "__repr__" = some (some (.ref f))) (hf : PySem.W.isFn X.K (.ref f) = true) (F : FnOk X.prog X.w X.K X.mg X.base CX0 k f fd ["self"] sp) (hb : Binds X.K fd ["self"] []) (hr : Room (k + 1) X.A) :
    CallR X (.builtin "repr") (rReprO C sp) := by
  intro pins s σ H xs us Q I r h
  obtain ⟨a, dx, fs, rfl, ha, q⟩ := h
  obtain ⟨u, rfl, rx⟩ := vals1 r
  have hu : u = Value.ref a := rx
  subst hu
  obtain ⟨mA, O, _⟩ := ins_get I.hok ha
  obtain ⟨od, J, _⟩ := O.look
  obtain ⟨m, fr⟩ := I.fr
  have room : Room k X.A.in1 := hr.in1
  refine PySem.W.repr_K (by have := room.un; omega) fr I.ok.mod.kin J hs hf ?_
  refine wpAny_call (codeAny_mono (F.run X.A.in1 X.stack s H ⟨[.ref a], []⟩ [.ref a] [.ref a] _ (fun _ _ _ => False) room I.env0.in1 (hb s [.ref a] I.kIn rfl) (.cons rfl .nil) (q _)) ?_)
  intro r s' hq
  cases r with
  | error e => exact False.elim hq
  | ok fl =>
    cases fl with
    | ret v =>
      obtain ⟨y, H', J', rel, z, rfl, q'⟩ := I.after hq
      obtain ⟨t, rfl⟩ := rel
      exact ⟨.str z, H', J', ⟨t, rfl⟩, q'⟩
    | next => exact False.elim hq
    | brk => exact False.elim hq
    | cont => exact False.elim hq
end Th
namespace Th
open PySem PySem.Spec PyProof.Rows L2
local macro_rules | `(tactic| walk_at "lk") => `(tactic| first
  | assumption
  | exact upd_same
  | (refine upd_old (by assumption) ?_; walk_at "lk")
  | (refine upd_diff (by assumption) ?_; walk_at "lk")
  | (refine upd_diff (Ne.symm (by assumption)) ?_; walk_at "lk"))
local macro_rules | `(tactic| walk_at "cnd") => `(tactic| first
  | omega
  | (refine ⟨by omega, by omega⟩)
  | (refine ⟨by omega, by omega, by omega⟩)
  | (refine .inl ⟨by omega, by omega⟩)
  | (refine .inr ⟨by omega, by omega⟩)
  | (exact (show CPow _ _ from ⟨by decide, by decide, by omega⟩))
  | decide +kernel
  | (unfold CMulW; decide +kernel)
  | (exact wide_div (b := 64) (by omega) (by omega) (by decide) (by decide)))
local macro_rules | `(tactic| walk_at "rd1") => `(tactic| first
  | (with_reducible refine r_seq ?_)
  | (with_reducible refine r_asg ?_)
  | (with_reducible refine r_ret ?_)
  | (with_reducible refine r_if ?_)
  | (with_reducible refine r_gname ?_)
  | ((with_reducible refine' r_var ?hv ?_); (case hv => exact rfl))
  | (with_reducible refine r_c ?_)
  | (with_reducible refine r_op ?_)
  | (with_reducible refine r_I0 ?_)
  | ((with_reducible refine r_I ?hc ?_); (case hc => walk_at "cnd"))
  | (with_reducible refine r_test ?_)
  | (with_reducible refine r_tB ?_)
  | (with_reducible refine r_bl ?_)
  | (with_reducible refine r_not ?_)
  | (with_reducible refine r_and ?_)
  | (with_reducible refine r_or ?_)
  | (with_reducible refine r_ifE ?_)
  | (with_reducible refine r_notV ?_)
  | (with_reducible refine r_andV ?_)
  | (with_reducible refine r_orV ?_)
  | (with_reducible refine r_chain ?_)
  | (with_reducible refine r_cb ?_)
  | (with_reducible refine r_call ?_)
  | (with_reducible refine r_callN ?_)
  | (with_reducible refine r_nil ?_)
  | (with_reducible refine r_cons ?_)
  | ((with_reducible refine r_lst ?_))
  | ((with_reducible refine r_tup ?_))
  | ((with_reducible refine r_new ?_ ?_); (exact Nat.le_of_ble_eq_true rfl); (intro p hp))
  | (with_reducible refine r_rInt1 ?_)
  | (with_reducible refine r_rIntB ?_)
  | (with_reducible refine r_rAbs ?_)
  | (with_reducible refine r_rMin2 ?_)
  | (with_reducible refine r_rMax2 ?_)
  | ((with_reducible refine r_rLenZ ?hz ?_); (case hz => first | assumption | exact Nat.le_of_ble_eq_true rfl | (refine Nat.le_trans ?_ (by decide : 100000 ≤ sizeLine); omega)))
  | ((with_reducible refine r_addZ ?hz ?_); (case hz => (refine Nat.le_trans ?_ (by decide : 100000 ≤ sizeLine); first | omega | (simp only [Str.length] at *; simp; omega))))
  | ((with_reducible refine r_mulZ ?hz ?h0 ?h1 ?_); (case hz => first | omega | exact Nat.le_of_ble_eq_true rfl); (case h0 => omega); (case h1 => omega))
  | ((with_reducible refine' r_rLenQ ?h1 ?_); (case h1 => first | (exact .inl (by assumption)) | (exact .inr (by assumption)) | (exact .inl (SqL.of (by walk_at "lk"))) | (exact .inr (SqT.of (by walk_at "lk")))))
  | ((with_reducible refine r_eq ?hs ?_); (case hs => exact rfl))
  | ((with_reducible refine r_ne ?hs ?_); (case hs => exact rfl))
  | (with_reducible refine r_inC ?_)
  | ((with_reducible refine' r_cat ?h1 ?h2 ?h3 ?_); (case h1 => walk_at "lk"); (case h2 => walk_at "lk"); (case h3 => exact Nat.le_of_ble_eq_true rfl); (intro p hp))
  | ((with_reducible refine' r_rep ?h1 ?h2 ?h3 ?h4 ?_); (case h1 => walk_at "lk"); (case h2 => omega); (case h3 => omega); (case h4 => exact Nat.le_of_ble_eq_true rfl); (intro p hp))
  | ((with_reducible refine' r_append ?h1 ?h2 ?_); (case h1 => walk_at "lk"); (case h2 => first | exact (show _ + 1 ≤ sizeLine from Nat.le_of_ble_eq_true rfl) | exact Nat.lt_of_le_of_lt (by omega : _ ≤ 100000) (by decide)))
  | (with_reducible refine r_bm ?_)
  | ((with_reducible refine' r_tyL ?h1 ?_); (case h1 => walk_at "lk"))
  | ((with_reducible refine' r_ixL ?h1 ?h2 ?_); (case h1 => first | assumption | exact SqL.of (by walk_at "lk")); (case h2 => exact rfl))
  | ((with_reducible refine' r_ixT ?h1 ?h2 ?_); (case h1 => first | assumption | exact SqT.of (by walk_at "lk")); (case h2 => exact rfl))
  | (with_reducible refine r_gsub ?_)
  | ((with_reducible refine' r_setL ?h1 ?h2 ?_); (case h1 => walk_at "lk"); (case h2 => exact rfl))
  | (with_reducible refine r_un ?_)
  | (with_reducible refine r_neg ?_)
  | (with_reducible refine r_iteT ?_)
  | (with_reducible refine r_iteNT ?_)
  | (with_reducible refine r_iteNF ?_)
  | (with_reducible refine r_iteF ?_)
  | (with_reducible refine r_next ?_)
  | (with_reducible refine r_drop ?_)
  | (with_reducible refine r_cont ?_)
  | (with_reducible refine r_brk ?_))
local macro_rules | `(tactic| walk_at "ty") => `(tactic| first
  | assumption
  | exact .base (.int _)
  | exact .base (.str _)
  | exact .base (.bl _)
  | exact .base .non
  | exact .byt _
  | exact .base (.lst (by walk_at "lk"))
  | exact .base (.tup (by walk_at "lk")))
local macro_rules | `(tactic| walk_at "rd2") => `(tactic| first
  | walk_at "rd1"
  | ((with_reducible refine' r_isi true ?ht ?hk ?_); (case ht => walk_at "ty"); (case hk => first | assumption | decide +kernel))
  | ((with_reducible refine' r_isi false ?ht ?hk ?_); (case ht => walk_at "ty"); (case hk => first | assumption | decide +kernel))
  | ((with_reducible refine' r_isiT2 true true ?hT ?ht ?hk ?hk2 ?_); (case hT => walk_at "lk"); (case ht => walk_at "ty"); (case hk => decide +kernel); (case hk2 => decide +kernel))
  | ((with_reducible refine' r_isiT2 true false ?hT ?ht ?hk ?hk2 ?_); (case hT => walk_at "lk"); (case ht => walk_at "ty"); (case hk => decide +kernel); (case hk2 => decide +kernel))
  | ((with_reducible refine' r_isiT2 false true ?hT ?ht ?hk ?hk2 ?_); (case hT => walk_at "lk"); (case ht => walk_at "ty"); (case hk => decide +kernel); (case hk2 => decide +kernel))
  | ((with_reducible refine' r_isiT2 false false ?hT ?ht ?hk ?hk2 ?_); (case hT => walk_at "lk"); (case ht => walk_at "ty"); (case hk => decide +kernel); (case hk2 => decide +kernel))
  | (with_reducible refine r_iteNT ?_)
  | ((show (if (!true) = true then _ else _)); refine r_iteNT ?_)
  | (with_reducible refine r_r1 ?_)
  | (with_reducible refine r_maks ?_)
  | (with_reducible refine r_sfld ?_)
  | ((with_reducible refine' r_sfldE ?h1 ?h2 ?h3 ?h4 ?_); (case h1 => walk_at "lk"); (case h2 => assumption); (case h3 => assumption); (case h4 => exact (show _ + 1 ≤ 1000 from Nat.le_of_ble_eq_true rfl)))
  | (with_reducible refine r_fld ?_)
  | (with_reducible refine r_join ?_)
  | (with_reducible refine r_jcons ?_)
  | (with_reducible refine r_jnil ?_)
  | ((with_reducible refine r_rLenY ?hz ?_); (case hz => first | assumption | (refine Nat.le_trans ?_ (by decide : 100000 ≤ sizeLine); omega)))
  | (with_reducible refine r_par ?_)
  | (with_reducible refine r_pair ?_)
  | (with_reducible refine r_par3 ?_)
  | (with_reducible refine r_trip ?_)
  | ((with_reducible refine' r_gtup ?h1 ?h2 ?_); (case h1 => first | assumption | exact SqT.of (by walk_at "lk")); (case h2 => exact rfl))
  | (with_reducible refine r_gcons ?_)
  | (with_reducible refine r_gnil ?_)
  | ((with_reducible refine' r_slL ?h1 ?_); (case h1 => first | assumption | exact SqL.of (by walk_at "lk")); (intro p hp))
  | (with_reducible refine r_iTup ?_)
  | ((with_reducible refine' r_tupE ?h1 ?_); (case h1 => first | assumption | exact SqT.of (by walk_at "lk")))
  | (with_reducible refine r_m1 ?_)
  | (with_reducible refine r_isZ ?_)
  | (with_reducible refine r_sl ?_)
  | (with_reducible refine r_noPart ?_)
  | (with_reducible refine r_part ?_)
  | (with_reducible refine r_partE ?_)
  | ((with_reducible refine r_slS ?hz ?_); (case hz => first | assumption | (refine Nat.le_trans ?_ (by decide : 100000 ≤ sizeLine); omega)))
  | ((with_reducible refine' r_inT ?h1 ?h2 ?h3 ?_); (case h1 => first | assumption | (exact SqT.of (by walk_at "lk"))); (case h2 => exact rfl); (case h3 => exact rfl))
  | ((with_reducible refine' r_inL ?h1 ?h2 ?h3 ?_); (case h1 => first | assumption | (exact SqL.of (by walk_at "lk"))); (case h2 => exact rfl); (case h3 => exact rfl))
  | (with_reducible refine r_lc ?_)
  | (with_reducible refine r_for ?_)
  | (with_reducible refine r_iStr ?_)
  | (with_reducible refine r_strE ?_)
  | (with_reducible refine r_iList ?_)
  | ((with_reducible refine' r_listE ?h1 ?_); (case h1 => first | assumption | exact SqL.of (by walk_at "lk")))
  | (with_reducible refine r_iRng1 ?_)
  | ((with_reducible refine' r_rngE ?h0 ?h1 ?_); (case h0 => first | omega | (split <;> omega)); (case h1 => first | omega | (split <;> omega))))
local macro_rules | `(tactic| walk_at "rd") => `(tactic| (repeat walk_at "rd2"))
local macro_rules | `(tactic| walk_at "st") => `(tactic| (repeat (first
  | (with_reducible refine r_gname ?_)
  | (with_reducible refine r_next ?_)
  | (with_reducible refine r_seq ?_)
  | (with_reducible refine r_asg ?_)
  | (with_reducible refine r_ret ?_)
  | (with_reducible refine r_for ?_)
  | (with_reducible refine r_iRng1 ?_)
  | (with_reducible refine r_iList ?_)
  | (with_reducible refine r_cons ?_)
  | (with_reducible refine r_par ?_)
  | (with_reducible refine r_par3 ?_))))
theorem store_KeyErrorT : PySem.StoreFacts "KeyError" [.type "KeyError", .type "LookupError", .type "Exception", .type "BaseException", .type "object"] "object.__setattr__" "object" where
  mro := by kernel_rfl
  slot := .of (owner := "object") (n := "__setattr__") (by rw [PySem.typeLookup_type, PySem.builtinLookup_eq_fast]; kernel_rfl) (by decide +kernel) (by decide +kernel) (by decide +kernel)
    (by first | exact .inl (by decide +kernel) | exact .inr (by decide +kernel)) (by rw [PySem.isSubtype_type]; kernel_rfl)
  entry := PySem.F.entry_object_sa
  kind := by decide +kernel
  split := by decide +kernel
  hasOwner := by decide +kernel
  args := fun a b c => by unfold PySem.argsOk; kernel_rfl
  passes := fun self => by kernel_rfl
/-! ### an own exception made by a call with keywords: __new__, then the own __init__ -/
namespace ExK
open PySem PySem.W PySem.Calls PyProof.Rows PySem.HandSPX
open Builtin Builtin.ObjectAttr
section
variable {M : Model} {A : Around} {E : Value → Shared → Prop} {h : Heap} {g : Array GenState} {d : Drawn} {t : Nat} {os : OsState}
variable {nm q : Str} {C N : Addr} {bs bm bmB : List Value} {hdct : Bool} {sn : List Str} {sub : List Value} {ab : Bool} {col : Option Bool} {dd : Option Addr} {k0 k1 k2 k3 k5 : Option Value} {B newId initId : String}
theorem check_new_kw (F : ExcBaseFacts B newId initId bmB) (hT : bm.contains (.type B) = true ∧ bm.contains (.type "AttributeError") = false ∧ bm.contains (.type "NameError") = false) {rest : List Value} {kw : List (Str × Value)} {Q : Unit → Shared → Prop}
    (hC : h.get? C = some (excClassObj nm q C N bs bm hdct sn sub ab col dd k0 k1 k2 k3 k5 newId)) (hq : Q () ⟨h, g, d, t, os⟩) : wpAny M A (checkBuiltinCall newId ⟨.ref C :: rest, kw⟩) Q E ⟨h, g, d, t, os⟩ := by
  have hcont : (Value.ref C :: bm).contains (.type B) = true := by rw [List.contains_cons, hT.1, Bool.or_true]
  have hstar := F.noStar
  simp only [checkBuiltinCall, F.newKind, F.newSplit, F.newRow]
  repeat (first | refine wpAny_loadPart_at hC ?_ | (refine wpAny_isSubtype_exc hC ?_; rw [hcont]) | refine wpAny_staticBase_exc hC ?_ | refine wpAny_madeBy_exc hC ?_ | simp only [bne_self_eq_false, Bool.false_eq_true, if_false] | wp_step)
  exact hq
end
section
variable {prog : Program} {w : World} {A : Around} {E : Value → Shared → Prop} {R : Result → Shared → Prop} {h : Heap} {g : Array GenState} {d : Drawn} {t : Nat} {os : OsState}
variable {nm q : Str} {C N : Addr} {bs bm bmB : List Value} {hdct : Bool} {sn : List Str} {sub : List Value} {ab : Bool} {col : Option Bool} {dd : Option Addr} {k0 k1 k2 k3 k5 : Option Value} {B newId initId : String}
theorem new_kw (F : ExcBaseFacts B newId initId bmB) (hT : bm.contains (.type B) = true ∧ bm.contains (.type "AttributeError") = false ∧ bm.contains (.type "NameError") = false) {rest : List Value} {kw : List (Str × Value)}
    (hC : h.get? C = some (excClassObj nm q C N bs bm hdct sn sub ab col dd k0 k1 k2 k3 k5 newId))
    (hq : R (.ok (.ret (.ref (h.objs.size + 1)))) ⟨(h.push { cls := .type "tuple", data := .seq rest.toArray }).push
      { cls := .ref C, data := .fields #[.ref h.objs.size, .none, .none, .none, .bool false, .none] }, g, d, t, os⟩) (hrest : rest.length ≤ sizeLine) :
    codeAny (model prog w) A (.builtin newId ⟨.ref C :: rest, kw⟩) R ⟨h, g, d, t, os⟩ := by
  have hends := F.ends
  have hcB : (Value.ref C :: bm).contains (.type B) = true := by rw [List.contains_cons, hT.1, Bool.or_true]
  have hcA : (Value.ref C :: bm).contains (.type "AttributeError") = false := by rw [List.contains_cons, hT.2.1]; rfl
  have hcN : (Value.ref C :: bm).contains (.type "NameError") = false := by rw [List.contains_cons, hT.2.2]; rfl
  refine codeAny_builtinAt F.entry ?_
  unfold Builtin.«BaseException.__new__»
  refine PySem.wpAt_bind ?_
  show PySem.wpAt _ _ _ (stack >>= _) _ _ _
  refine PySem.wpAt_bind (PySem.wpAt_stack fun p below => PySem.wpAt_of_wpAny ?_)
  wp_walk
  refine PySem.wpAt_of_wpAny ?_
  rw [F.owner]
  repeat (first | with_reducible refine wpAny_madeHere_exc F.canon hC ?_ | with_reducible refine wpAny_loadPart_at hC ?_ | (with_reducible refine wpAny_isSubtype_exc hC ?_; first | rw [hcB] | rw [hcA] | rw [hcN]) | wp_step)
  show R _ _
  rw [Heap.size_push]
  exact hq
theorem type_call_kw (F : ExcBaseFacts B newId initId bmB) (hT : bm.contains (.type B) = true ∧ bm.contains (.type "AttributeError") = false ∧ bm.contains (.type "NameError") = false) {rest : List Value} {kw : List (Str × Value)} {fI : Addr} {Q : Fin → Shared → Prop}
    (hC : h.get? C = some (excClassObj nm q C N bs bm hdct sn sub ab col dd k0 k1 k2 k3 k5 newId))
    (hi : W.Looks (model prog w) h (typeLookup (.ref C) "__init__") (some (.ref fI))) (hb : ∀ self, W.Looks (model prog w) h (bindSpecial (.ref fI) self) (.ref fI, [self])) (hrest : rest.length ≤ sizeLine)
    (hq : codeAny (model prog w) A (.call (.ref fI) ⟨.ref (h.objs.size + 1) :: rest, kw⟩)
      (fun r s' => match r with | .ok (.ret v) => v = .none ∧ Q (.done (.ret (.ref (h.objs.size + 1)))) s' | .ok _ => False | .error e => E e s')
      ⟨(h.push (W.kdv_tup rest)).push (excO C h.objs.size), g, d, t, os⟩) :
    wpAny (model prog w) A (Builtin.«type.__call__» ⟨.ref C :: rest, kw⟩) Q E ⟨h, g, d, t, os⟩ := by
  repeat (first | with_reducible refine wpAny_loadPart_at hC ?_ | with_reducible refine wpAny_madeBy_exc hC ?_ | wp_step)
  refine codeAny_call_builtin_code (Code.quiet_builtin _ F.quiet) (check_new_kw F hT hC ?_)
  refine new_kw F hT hC ?_ hrest
  show wpAny _ _ _ _ _ _
  have k : ∀ b o, h.get? b = some o → ((h.push (W.kdv_tup rest)).push (excO C h.objs.size)).get? b = some o := fun b o e => Heap.get?_push_of_some _ (Heap.get?_push_of_some _ e)
  have hC₁ := k _ _ hC
  have hget : ((h.push (W.kdv_tup rest)).push (excO C h.objs.size)).get? (h.objs.size + 1) = some (excO C h.objs.size) := by heap_get
  have hcC : (Value.ref C :: bm).contains (.ref C) = true := by simp
  have i1 := hi.keeps k
  have b1 := (hb (.ref (h.objs.size + 1))).keeps k
  unfold isInstance
  repeat (first | with_reducible refine wpAny_loadPart_at hget ?_ | (with_reducible refine wpAny_isSubtype_exc hC₁ ?_; rw [hcC]) | wp_step)
  show wpAny _ _ (typeLookup (.ref C) _) _ _ _
  refine i1.at ?_
  refine wpAny_holding (wpAny_bind (b1.at ?_))
  refine wpAny_bind (wpAny_call (codeAny_mono hq fun r s' z => ?_))
  rcases r with e | (v | _ | _ | _) <;> first | exact z | exact z.elim | skip
  obtain ⟨rfl, z⟩ := z
  first
    | exact wpAny_pure (wpAny_pure z)
    | (wp_walk; exact z)
theorem call_kw (F : ExcBaseFacts B newId initId bmB) (hT : bm.contains (.type B) = true ∧ bm.contains (.type "AttributeError") = false ∧ bm.contains (.type "NameError") = false) {rest : List Value} {kw : List (Str × Value)} {fI : Addr}
    (hC : h.get? C = some (excClassObj nm q C N bs bm hdct sn sub ab col dd k0 k1 k2 k3 k5 newId))
    (hi : W.Looks (model prog w) h (typeLookup (.ref C) "__init__") (some (.ref fI))) (hb : ∀ self, W.Looks (model prog w) h (bindSpecial (.ref fI) self) (.ref fI, [self])) (hrest : rest.length ≤ sizeLine)
    (hq : codeAny (model prog w) (A.under (.builtin "type.__call__" ⟨.ref C :: rest, kw⟩)) (.call (.ref fI) ⟨.ref (h.objs.size + 1) :: rest, kw⟩) (W.InitBack (h.objs.size + 1) R)
      ⟨(h.push (W.kdv_tup rest)).push (excO C h.objs.size), g, d, t, os⟩) :
    codeAny (model prog w) A (.call (.ref C) ⟨rest, kw⟩) R ⟨h, g, d, t, os⟩ := by
  have f1 := tc_lookup
  have f2 := tc_bind (.ref C)
  have hTy : (⟨h, g, d, t, os⟩ : Shared).TypeIs (.ref C) "type" := ⟨_, hC, rfl⟩
  refine codeAny_of_tree ?_
  show wpAny _ _ (callAny (.ref C) _) _ _ _
  repeat (any_goals (first | assumption | with_reducible refine wpAny_loadPart_at hC ?_ | wp_step))
  refine ⟨rfl, ?_⟩
  refine codeAny_call_builtin_at (Code.quiet_builtin _ (by decide +kernel)) entry_typeCall (wpAny_check_type_call_sub hC (type_call_kw F hT hC hi hb hrest ?_))
  refine codeAny_mono hq fun r s' z => ?_
  rcases r with e | (v | _ | _ | _) <;> exact z
end
end ExK
end Th
namespace Th
open PySem PySem.Spec PyProof.Rows L2
local macro_rules | `(tactic| walk_at "lk") => `(tactic| first
  | assumption
  | exact upd_same
  | (refine upd_old (by assumption) ?_; walk_at "lk")
  | (refine upd_diff (by assumption) ?_; walk_at "lk")
  | (refine upd_diff (Ne.symm (by assumption)) ?_; walk_at "lk"))
local macro_rules | `(tactic| walk_at "cnd") => `(tactic| first
  | omega
  | (refine ⟨by omega, by omega⟩)
  | (refine ⟨by omega, by omega, by omega⟩)
  | (refine .inl ⟨by omega, by omega⟩)
  | (refine .inr ⟨by omega, by omega⟩)
  | (exact (show CPow _ _ from ⟨by decide, by decide, by omega⟩))
  | decide +kernel
  | (unfold CMulW; decide +kernel)
  | (exact wide_div (b := 64) (by omega) (by omega) (by decide) (by decide)))
local macro_rules | `(tactic| walk_at "rd1") => `(tactic| first
  | (with_reducible refine r_seq ?_)
  | (with_reducible refine r_asg ?_)
  | (with_reducible refine r_ret ?_)
  | (with_reducible refine r_if ?_)
  | (with_reducible refine r_gname ?_)
  | ((with_reducible refine' r_var ?hv ?_); (case hv => exact rfl))
  | (with_reducible refine r_c ?_)
  | (with_reducible refine r_op ?_)
  | (with_reducible refine r_I0 ?_)
  | ((with_reducible refine r_I ?hc ?_); (case hc => walk_at "cnd"))
  | (with_reducible refine r_test ?_)
  | (with_reducible refine r_tB ?_)
  | (with_reducible refine r_bl ?_)
  | (with_reducible refine r_not ?_)
  | (with_reducible refine r_and ?_)
  | (with_reducible refine r_or ?_)
  | (with_reducible refine r_ifE ?_)
  | (with_reducible refine r_notV ?_)
  | (with_reducible refine r_andV ?_)
  | (with_reducible refine r_orV ?_)
  | (with_reducible refine r_chain ?_)
  | (with_reducible refine r_cb ?_)
  | (with_reducible refine r_call ?_)
  | (with_reducible refine r_callN ?_)
  | (with_reducible refine r_nil ?_)
  | (with_reducible refine r_cons ?_)
  | ((with_reducible refine r_lst ?_))
  | ((with_reducible refine r_tup ?_))
  | ((with_reducible refine r_new ?_ ?_); (exact Nat.le_of_ble_eq_true rfl); (intro p hp))
  | (with_reducible refine r_rInt1 ?_)
  | (with_reducible refine r_rIntB ?_)
  | (with_reducible refine r_rAbs ?_)
  | (with_reducible refine r_rMin2 ?_)
  | (with_reducible refine r_rMax2 ?_)
  | ((with_reducible refine r_rLenZ ?hz ?_); (case hz => first | assumption | exact Nat.le_of_ble_eq_true rfl | (refine Nat.le_trans ?_ (by decide : 100000 ≤ sizeLine); omega)))
  | ((with_reducible refine r_addZ ?hz ?_); (case hz => (refine Nat.le_trans ?_ (by decide : 100000 ≤ sizeLine); first | omega | (simp only [Str.length] at *; simp; omega))))
  | ((with_reducible refine r_mulZ ?hz ?h0 ?h1 ?_); (case hz => first | omega | exact Nat.le_of_ble_eq_true rfl); (case h0 => omega); (case h1 => omega))
  | ((with_reducible refine' r_rLenQ ?h1 ?_); (case h1 => first | (exact .inl (by assumption)) | (exact .inr (by assumption)) | (exact .inl (SqL.of (by walk_at "lk"))) | (exact .inr (SqT.of (by walk_at "lk")))))
  | ((with_reducible refine r_eq ?hs ?_); (case hs => exact rfl))
  | ((with_reducible refine r_ne ?hs ?_); (case hs => exact rfl))
  | (with_reducible refine r_inC ?_)
  | ((with_reducible refine' r_cat ?h1 ?h2 ?h3 ?_); (case h1 => walk_at "lk"); (case h2 => walk_at "lk"); (case h3 => exact Nat.le_of_ble_eq_true rfl); (intro p hp))
  | ((with_reducible refine' r_rep ?h1 ?h2 ?h3 ?h4 ?_); (case h1 => walk_at "lk"); (case h2 => omega); (case h3 => omega); (case h4 => exact Nat.le_of_ble_eq_true rfl); (intro p hp))
  | ((with_reducible refine' r_append ?h1 ?h2 ?_); (case h1 => walk_at "lk"); (case h2 => first | exact (show _ + 1 ≤ sizeLine from Nat.le_of_ble_eq_true rfl) | exact Nat.lt_of_le_of_lt (by omega : _ ≤ 100000) (by decide)))
  | (with_reducible refine r_bm ?_)
  | ((with_reducible refine' r_tyL ?h1 ?_); (case h1 => walk_at "lk"))
  | ((with_reducible refine' r_ixL ?h1 ?h2 ?_); (case h1 => first | assumption | exact SqL.of (by walk_at "lk")); (case h2 => exact rfl))
  | ((with_reducible refine' r_ixT ?h1 ?h2 ?_); (case h1 => first | assumption | exact SqT.of (by walk_at "lk")); (case h2 => exact rfl))
  | (with_reducible refine r_gsub ?_)
  | ((with_reducible refine' r_setL ?h1 ?h2 ?_); (case h1 => walk_at "lk"); (case h2 => exact rfl))
  | (with_reducible refine r_un ?_)
  | (with_reducible refine r_neg ?_)
  | (with_reducible refine r_iteT ?_)
  | (with_reducible refine r_iteNT ?_)
  | (with_reducible refine r_iteNF ?_)
  | (with_reducible refine r_iteF ?_)
  | (with_reducible refine r_next ?_)
  | (with_reducible refine r_drop ?_)
  | (with_reducible refine r_cont ?_)
  | (with_reducible refine r_brk ?_))
local macro_rules | `(tactic| walk_at "ty") => `(tactic| first
  | assumption
  | exact .base (.int _)
  | exact .base (.str _)
  | exact .base (.bl _)
  | exact .base .non
  | exact .byt _
  | exact .base (.lst (by walk_at "lk"))
  | exact .base (.tup (by walk_at "lk")))
local macro_rules | `(tactic| walk_at "rd2") => `(tactic| first
  | walk_at "rd1"
  | ((with_reducible refine' r_isi true ?ht ?hk ?_); (case ht => walk_at "ty"); (case hk => first | assumption | decide +kernel))
  | ((with_reducible refine' r_isi false ?ht ?hk ?_); (case ht => walk_at "ty"); (case hk => first | assumption | decide +kernel))
  | ((with_reducible refine' r_isiT2 true true ?hT ?ht ?hk ?hk2 ?_); (case hT => walk_at "lk"); (case ht => walk_at "ty"); (case hk => decide +kernel); (case hk2 => decide +kernel))
  | ((with_reducible refine' r_isiT2 true false ?hT ?ht ?hk ?hk2 ?_); (case hT => walk_at "lk"); (case ht => walk_at "ty"); (case hk => decide +kernel); (case hk2 => decide +kernel))
  | ((with_reducible refine' r_isiT2 false true ?hT ?ht ?hk ?hk2 ?_); (case hT => walk_at "lk"); (case ht => walk_at "ty"); (case hk => decide +kernel); (case hk2 => decide +kernel))
  | ((with_reducible refine' r_isiT2 false false ?hT ?ht ?hk ?hk2 ?_); (case hT => walk_at "lk"); (case ht => walk_at "ty"); (case hk => decide +kernel); (case hk2 => decide +kernel))
  | (with_reducible refine r_iteNT ?_)
  | ((show (if (!true) = true then _ else _)); refine r_iteNT ?_)
  | (with_reducible refine r_r1 ?_)
  | (with_reducible refine r_maks ?_)
  | (with_reducible refine r_sfld ?_)
  | ((with_reducible refine' r_sfldE ?h1 ?h2 ?h3 ?h4 ?_); (case h1 => walk_at "lk"); (case h2 => assumption); (case h3 => assumption); (case h4 => exact (show _ + 1 ≤ 1000 from Nat.le_of_ble_eq_true rfl)))
  | (with_reducible refine r_fld ?_)
  | (with_reducible refine r_join ?_)
  | (with_reducible refine r_jcons ?_)
  | (with_reducible refine r_jnil ?_)
  | ((with_reducible refine r_rLenY ?hz ?_); (case hz => first | assumption | (refine Nat.le_trans ?_ (by decide : 100000 ≤ sizeLine); omega)))
  | (with_reducible refine r_par ?_)
  | (with_reducible refine r_pair ?_)
  | (with_reducible refine r_par3 ?_)
  | (with_reducible refine r_trip ?_)
  | ((with_reducible refine' r_gtup ?h1 ?h2 ?_); (case h1 => first | assumption | exact SqT.of (by walk_at "lk")); (case h2 => exact rfl))
  | (with_reducible refine r_gcons ?_)
  | (with_reducible refine r_gnil ?_)
  | ((with_reducible refine' r_slL ?h1 ?_); (case h1 => first | assumption | exact SqL.of (by walk_at "lk")); (intro p hp))
  | (with_reducible refine r_iTup ?_)
  | ((with_reducible refine' r_tupE ?h1 ?_); (case h1 => first | assumption | exact SqT.of (by walk_at "lk")))
  | (with_reducible refine r_m1 ?_)
  | (with_reducible refine r_isZ ?_)
  | (with_reducible refine r_sl ?_)
  | (with_reducible refine r_noPart ?_)
  | (with_reducible refine r_part ?_)
  | (with_reducible refine r_partE ?_)
  | ((with_reducible refine r_slS ?hz ?_); (case hz => first | assumption | (refine Nat.le_trans ?_ (by decide : 100000 ≤ sizeLine); omega)))
  | ((with_reducible refine' r_inT ?h1 ?h2 ?h3 ?_); (case h1 => first | assumption | (exact SqT.of (by walk_at "lk"))); (case h2 => exact rfl); (case h3 => exact rfl))
  | ((with_reducible refine' r_inL ?h1 ?h2 ?h3 ?_); (case h1 => first | assumption | (exact SqL.of (by walk_at "lk"))); (case h2 => exact rfl); (case h3 => exact rfl))
  | (with_reducible refine r_lc ?_)
  | (with_reducible refine r_for ?_)
  | (with_reducible refine r_iStr ?_)
  | (with_reducible refine r_strE ?_)
  | (with_reducible refine r_iList ?_)
  | ((with_reducible refine' r_listE ?h1 ?_); (case h1 => first | assumption | exact SqL.of (by walk_at "lk")))
  | (with_reducible refine r_iRng1 ?_)
  | ((with_reducible refine' r_rngE ?h0 ?h1 ?_); (case h0 => first | omega | (split <;> omega)); (case h1 => first | omega | (split <;> omega))))
local macro_rules | `(tactic| walk_at "rd") => `(tactic| (repeat walk_at "rd2"))
local macro_rules | `(tactic| walk_at "st") => `(tactic| (repeat (first
  | (with_reducible refine r_gname ?_)
  | (with_reducible refine r_next ?_)
  | (with_reducible refine r_seq ?_)
  | (with_reducible refine r_asg ?_)
  | (with_reducible refine r_ret ?_)
  | (with_reducible refine r_for ?_)
  | (with_reducible refine r_iRng1 ?_)
  | (with_reducible refine r_iList ?_)
  | (with_reducible refine r_cons ?_)
  | (with_reducible refine r_par ?_)
  | (with_reducible refine r_par3 ?_))))
/-! ### storing into an exception -/
namespace ExK
open PySem PySem.W PySem.Calls PySem.HandSPX
open Builtin Builtin.ObjectAttr
section
variable {prog : Program} {w : World} {A : Around} {E : Value → Shared → Prop} {R : Result → Shared → Prop} {hp : Heap} {g : Array GenState} {d : Drawn} {t : Nat} {os : OsState}
theorem taker_none {K : PySem.W.Frag} {C : Addr} {f : Str} (h : PySem.W.findIn K (.ref C) f = some none) : PySem.W.takerIn K C f = some none := by
  unfold PySem.W.takerIn
  rw [h]
  rfl
theorem exc_osaG {K : PySem.W.Frag} {name : Str} {tk : Tok} {v : Value} {x C : Addr} {fv : Array Value} {B : String} {bmB : List Value} (SF : StoreFacts B bmB "object.__setattr__" "object")
    (X : K.In hp) (hx : hp.get? x = some { cls := .ref C, data := .fields fv }) (hov : PySem.W.excOver K C bmB = true) (hh : PySem.W.hasDictIn K C = true) (ha : PySem.W.findIn K (.ref C) name = some none)
    (hq : ∀ h' tk' dx, (∀ b o, b ≠ x → hp.get? b = some o → h'.get? b = some o) → hp.objs.size ≤ dx → dx ≠ x → h'.get? x = some { cls := .ref C, dict := some dx, data := .fields fv } →
      h'.Ns1 dx (fun y => if y = name then some v else none) → R (.ok (.ret .none)) ⟨h', g, d, tk', os⟩) :
    codeAny (model prog w) A (.call (.builtin "object.__setattr__") ⟨[.ref x, .str name tk, v], []⟩) R ⟨hp, g, d, t, os⟩ := by
  obtain ⟨cd, hcd, hh'⟩ := any_some hh
  have I : PySem.W.InstAt hp x { cls := .ref C, data := .fields fv } C none := ⟨hx, rfl, rfl, trivial⟩
  have hxs : x ≠ hp.objs.size := Nat.ne_of_lt (Heap.lt_size hx)
  have hcls : PySem.W.Looks (model prog w) hp (classData C) cd := PySem.W.looks_clsIn X hcd
  refine osa_openX (r := none) SF X I hov (taker_none ha) (fun b => ?_)
  show wpAny _ _ (storeInOwnDict (.ref x) (.ref C) (.str name tk) name v b) _ _ _
  obtain ⟨nm, bs, mro, ns, qn, hd, sn, sb, ab, col, del⟩ := cd
  dsimp only at hh'
  subst hh'
  unfold storeInOwnDict ownDictForStores
  repeat (first | with_reducible refine store_in_new ?_ ?_ | with_reducible refine wpAny_loadPart_at hx ?_ | with_reducible refine hcls.at ?_ | wp_step)
  · exact ⟨_, #[], _, (Heap.get?_update_ne _ _ _ _ hxs.symm).trans (Heap.get?_push_at rfl rfl), rfl, fun e he => absurd he (by simp), fun _ => rfl⟩
  · intro h' tk' hn' hs
    have hx₁ : (hp.push { cls := .type "dict", data := .dict #[] }).get? x = some { cls := .ref C, data := .fields fv } := Heap.get?_push_of_some _ hx
    refine hq h' tk' hp.objs.size (fun b o hb ho => ?_) (Nat.le_refl _) hxs.symm ?_ hn'
    · exact (hs.2 b (Nat.ne_of_lt (Heap.lt_size ho))).trans ((Heap.get?_update_ne _ _ _ _ hb).trans (Heap.get?_push_of_some _ ho))
    · exact (hs.2 x hxs).trans (Heap.get?_update_self _ hx₁ rfl)
theorem exc_oldG {K : PySem.W.Frag} {name : Str} {tk : Tok} {v : Value} {x C dx : Addr} {fv : Array Value} {m0 : Str → Option Value} {nl : List Str} {B : String} {bmB : List Value} (SF : StoreFacts B bmB "object.__setattr__" "object")
    (X : K.In hp) (hx : hp.get? x = some { cls := .ref C, dict := some dx, data := .fields fv }) (hns : hp.Ns1 dx m0) (hw : Within m0 nl) (hz : nl.length ≤ 1000) (hov : PySem.W.excOver K C bmB = true) (hh : PySem.W.hasDictIn K C = true)
    (ha : PySem.W.findIn K (.ref C) name = some none)
    (hq : ∀ h' tk', (∀ b o, b ≠ dx → hp.get? b = some o → h'.get? b = some o) → h'.Ns1 dx (fun y => if y = name then some v else m0 y) → R (.ok (.ret .none)) ⟨h', g, d, tk', os⟩) :
    codeAny (model prog w) A (.call (.builtin "object.__setattr__") ⟨[.ref x, .str name tk, v], []⟩) R ⟨hp, g, d, t, os⟩ := by
  obtain ⟨cd, hcd, hh'⟩ := any_some hh
  obtain ⟨oD, esD, epD, hoD, hdD, _⟩ := hns.count hw
  have I : PySem.W.InstAt hp x { cls := .ref C, dict := some dx, data := .fields fv } C (some oD) := ⟨hx, rfl, rfl, hoD⟩
  have hcls : PySem.W.Looks (model prog w) hp (classData C) cd := PySem.W.looks_clsIn X hcd
  refine osa_openX (r := none) SF X I hov (taker_none ha) (fun b => ?_)
  show wpAny _ _ (storeInOwnDict (.ref x) (.ref C) (.str name tk) name v b) _ _ _
  obtain ⟨nm, bs, mro, ns, qn, hd, sn, sb, ab, col, del⟩ := cd
  dsimp only at hh'
  subst hh'
  unfold storeInOwnDict ownDictForStores
  repeat (first | with_reducible refine PySem.OEX.store_in_old hns hw hz ?_ | with_reducible refine wpAny_loadPart_at hx ?_ | with_reducible refine hcls.at ?_ | wp_step)
  intro h' tk' hn' hs
  exact hq h' tk' (fun b o hb ho => (hs.2 b hb).trans ho) hn'
end
end ExK
/-! ### own exceptions as values -/
structure ExG (K : PySem.W.Frag) (C fI : Addr) : Prop where
  b : ∃ (B newId initId : String) (bmA : List Value) (B' : String) (bmB : List Value), PySem.ExcBaseFacts B newId initId bmA ∧ PySem.StoreFacts B' bmB "object.__setattr__" "object" ∧ PySem.W.excInitIn K C bmB newId = true ∧ PySem.W.excOver K C bmB = true ∧
    bmB.contains (.type B) = true ∧ bmB.contains (.type "AttributeError") = false ∧ bmB.contains (.type "NameError") = false
  sa : PySem.W.findIn K (.ref C) "__setattr__" = some (some (.builtin "object.__setattr__"))
  iC : PySem.W.findIn K (.ref C) "__init__" = some (some (.ref fI))
  tI : PySem.W.typeIn K (.ref fI) = some (.type "function")
  kC : PySem.W.keepIn K (.ref C) = true
  ga : PySem.W.findIn K (.ref C) "__getattribute__" = some (some (.builtin "BaseException.__getattribute__"))
  gg : PySem.W.findIn K (.ref C) "__getattr__" = some none
  exC : PySem.W.subIn K (.ref C) (.type "BaseException") = some true
  hd : PySem.W.hasDictIn K C = true
  ha : PySem.W.findIn K (.ref C) "__class__" = some (some (.builtin "object.__class__"))
  hn : PySem.W.specialIn K (.builtin "object.__class__") "__get__" = some (some (.builtin "getset_descriptor.__get__"))
  ht : PySem.W.takesIn K (.builtin "object.__class__") = some true
  hm : PySem.W.mroIn K C (.type "object") = some true
section
variable {X : Cx} {pins : List (Addr × Obj)} {σ : L2.St} {H : Hp} {s : Shared} {a C fI dx : Addr} {f : Str} {y : V} {u : Value} {fs : List (Str × V)} {Q : Unit → Shared → Prop} {E : Value → Shared → Prop} {A : Around}
theorem ost_newG (T : ExG X.K C fI) (I : Inv X pins σ H s) (e : H a = some (exo a C none)) (hno : PySem.W.findIn X.K (.ref C) f = some none) (ry : RelV y u)
    (h : ∀ dx s', H dx = none → dx ≠ a → Inv X pins σ (upd (upd H dx (exd dx [(f, y)])) a (exo a C (some dx))) s' → Q () s') : wpAny (model X.prog X.w) A (setAttr (.ref a) f u) Q E s := by
  obtain ⟨B, newId, initId, bmA, B', bmB, FB, SF, hin, hov, _⟩ := T.b
  obtain ⟨t1, ho⟩ := exo_at I.hok e
  obtain ⟨hp, g, d, t, os⟩ := s
  refine PySem.W.set_plain I.kIn (ox := { cls := .ref C, dict := none, data := .fields #[.ref t1, .none, .none, .none, .bool false, .none] }) (od := none) ⟨ho, rfl, rfl, trivial⟩ T.sa ?_
  refine ExK.exc_osaG SF I.kIn ho hov T.hd hno (fun h' tk' dx k dn dne hx hn => ?_)
  have hnd : H dx = none := I.hok.fresh dn
  have nd : ∀ {b : Addr} {o : Obj}, hp.get? b = some o → b ≠ dx := fun {b o} q => Nat.ne_of_lt (Nat.lt_of_lt_of_le (Heap.lt_size q) dn)
  have na : ∀ {b : Addr}, H b = none → b ≠ a := fun {b} n z => by
    rw [z, e] at n
    cases n
  have Un1 : Un X.fs [] H (upd (upd H dx (exd dx [(f, y)])) a (exo a C (some dx))) hp h' := {
    keep := fun b o q n _ _ => k b o (na n) q
    slot := fun b o q n _ _ => ⟨o.slots, k b o (na n) q⟩
    free := fun b o q n _ => by rw [upd_ne (na n), upd_ne (nd q)]; exact n
    there := fun b o q _ => by
      by_cases hb : b = a
      · exact ⟨_, by rw [hb]; exact hx⟩
      · exact ⟨o, k b o hb q⟩
    tups := fun b xs q => by rw [upd_ne (at_ne e q exo_tup), upd_ne (ne_of_none q hnd)]; exact q
    frzs := fun b o v q => by rw [upd_ne (at_ne e q exo_frz), upd_ne (ne_of_none q hnd)]; exact q
    tbls := fun b ps q => ⟨#[], by rw [upd_ne (at_ne e q exo_tbl), upd_ne (ne_of_none q hnd), q]; simp⟩ }
  refine h dx _ hnd dne (I.un (t' := tk') Un1 fun b o q => ?_)
  by_cases hb : b = a
  · subst hb
    rw [upd_same] at q
    cases q
    exact exo_ok hx
  · rw [upd_ne hb] at q
    by_cases hd : b = dx
    · subst hd
      rw [upd_same] at q
      cases q
      exact exd_ok hn (relO_put (fs := []) ry fun g => True.intro)
    · rw [upd_ne hd] at q
      exact (I.hok b o q).stay (fun c v hc z => k c v (by
          rcases hc with hc | hc
          · rw [hc]
            exact hb
          · exact at_ne e hc exo_own) z)
        (fun c hc => by rw [upd_ne (at_ne e hc exo_own), upd_ne (ne_of_none hc hnd)]; exact hc) (fun c xs hc => by rw [upd_ne (at_ne e hc exo_tup), upd_ne (ne_of_none hc hnd)]; exact hc)
theorem ost_oldG (T : ExG X.K C fI) (I : Inv X pins σ H s) (e : H a = some (exo a C (some dx))) (ed : H dx = some (exd dx fs)) (hl : fs.length ≤ 900) (hno : PySem.W.findIn X.K (.ref C) f = some none) (ry : RelV y u)
    (h : ∀ s', Inv X pins σ (upd H dx (exd dx ((f, y) :: fs))) s' → Q () s') : wpAny (model X.prog X.w) A (setAttr (.ref a) f u) Q E s := by
  obtain ⟨B, newId, initId, bmA, B', bmB, FB, SF, hin, hov, _⟩ := T.b
  obtain ⟨t1, ho⟩ := exo_at I.hok e
  obtain ⟨mA, hns, rel⟩ := exd_at I.hok ed
  have hw := within_of rel
  obtain ⟨hp, g, d, t, os⟩ := s
  obtain ⟨oD, _, _, hoD, _, _⟩ := hns.count hw
  refine PySem.W.set_plain I.kIn (ox := { cls := .ref C, dict := some dx, data := .fields #[.ref t1, .none, .none, .none, .bool false, .none] }) (od := some oD) ⟨ho, rfl, rfl, hoD⟩ T.sa ?_
  refine ExK.exc_oldG SF I.kIn ho hns hw (by rw [List.length_map]; omega) hov T.hd hno (fun h' tk' k hn => ?_)
  have hd : ∃ o, h'.get? dx = some o := by
    obtain ⟨o, _, _, e', _⟩ := hn
    exact ⟨o, e'⟩
  exact h _ (I.write (t' := tk') (x := dx) (e := dx) (o := exd dx ((f, y) :: fs)) (by rw [ed]; exact True.intro) (.inl rfl) k hd (exd_ok hn (relO_put ry rel)))
end
end Th
namespace Th
open PySem PySem.Spec PyProof.Rows L2
local macro_rules | `(tactic| walk_at "lk") => `(tactic| first
  | assumption
  | exact upd_same
  | (refine upd_old (by assumption) ?_; walk_at "lk")
  | (refine upd_diff (by assumption) ?_; walk_at "lk")
  | (refine upd_diff (Ne.symm (by assumption)) ?_; walk_at "lk"))
local macro_rules | `(tactic| walk_at "cnd") => `(tactic| first
  | omega
  | (refine ⟨by omega, by omega⟩)
  | (refine ⟨by omega, by omega, by omega⟩)
  | (refine .inl ⟨by omega, by omega⟩)
  | (refine .inr ⟨by omega, by omega⟩)
  | (exact (show CPow _ _ from ⟨by decide, by decide, by omega⟩))
  | decide +kernel
  | (unfold CMulW; decide +kernel)
  | (exact wide_div (b := 64) (by omega) (by omega) (by decide) (by decide)))
local macro_rules | `(tactic| walk_at "rd1") => `(tactic| first
  | (with_reducible refine r_seq ?_)
  | (with_reducible refine r_asg ?_)
  | (with_reducible refine r_ret ?_)
  | (with_reducible refine r_if ?_)
  | (with_reducible refine r_gname ?_)
  | ((with_reducible refine' r_var ?hv ?_); (case hv => exact rfl))
  | (with_reducible refine r_c ?_)
  | (with_reducible refine r_op ?_)
  | (with_reducible refine r_I0 ?_)
  | ((with_reducible refine r_I ?hc ?_); (case hc => walk_at "cnd"))
  | (with_reducible refine r_test ?_)
  | (with_reducible refine r_tB ?_)
  | (with_reducible refine r_bl ?_)
  | (with_reducible refine r_not ?_)
  | (with_reducible refine r_and ?_)
  | (with_reducible refine r_or ?_)
  | (with_reducible refine r_ifE ?_)
  | (with_reducible refine r_notV ?_)
  | (with_reducible refine r_andV ?_)
  | (with_reducible refine r_orV ?_)
  | (with_reducible refine r_chain ?_)
  | (with_reducible refine r_cb ?_)
  | (with_reducible refine r_call ?_)
  | (with_reducible refine r_callN ?_)
  | (with_reducible refine r_nil ?_)
  | (with_reducible refine r_cons ?_)
  | ((with_reducible refine r_lst ?_))
  | ((with_reducible refine r_tup ?_))
  | ((with_reducible refine r_new ?_ ?_); (exact Nat.le_of_ble_eq_true rfl); (intro p hp))
  | (with_reducible refine r_rInt1 ?_)
  | (with_reducible refine r_rIntB ?_)
  | (with_reducible refine r_rAbs ?_)
  | (with_reducible refine r_rMin2 ?_)
  | (with_reducible refine r_rMax2 ?_)
  | ((with_reducible refine r_rLenZ ?hz ?_); (case hz => first | assumption | exact Nat.le_of_ble_eq_true rfl | (refine Nat.le_trans ?_ (by decide : 100000 ≤ sizeLine); omega)))
  | ((with_reducible refine r_addZ ?hz ?_); (case hz => (refine Nat.le_trans ?_ (by decide : 100000 ≤ sizeLine); first | omega | (simp only [Str.length] at *; simp; omega))))
  | ((with_reducible refine r_mulZ ?hz ?h0 ?h1 ?_); (case hz => first | omega | exact Nat.le_of_ble_eq_true rfl); (case h0 => omega); (case h1 => omega))
  | ((with_reducible refine' r_rLenQ ?h1 ?_); (case h1 => first | (exact .inl (by assumption)) | (exact .inr (by assumption)) | (exact .inl (SqL.of (by walk_at "lk"))) | (exact .inr (SqT.of (by walk_at "lk")))))
  | ((with_reducible refine r_eq ?hs ?_); (case hs => exact rfl))
  | ((with_reducible refine r_ne ?hs ?_); (case hs => exact rfl))
  | (with_reducible refine r_inC ?_)
  | ((with_reducible refine' r_cat ?h1 ?h2 ?h3 ?_); (case h1 => walk_at "lk"); (case h2 => walk_at "lk"); (case h3 => exact Nat.le_of_ble_eq_true rfl); (intro p hp))
  | ((with_reducible refine' r_rep ?h1 ?h2 ?h3 ?h4 ?_); (case h1 => walk_at "lk"); (case h2 => omega); (case h3 => omega); (case h4 => exact Nat.le_of_ble_eq_true rfl); (intro p hp))
  | ((with_reducible refine' r_append ?h1 ?h2 ?_); (case h1 => walk_at "lk"); (case h2 => first | exact (show _ + 1 ≤ sizeLine from Nat.le_of_ble_eq_true rfl) | exact Nat.lt_of_le_of_lt (by omega : _ ≤ 100000) (by decide)))
  | (with_reducible refine r_bm ?_)
  | ((with_reducible refine' r_tyL ?h1 ?_); (case h1 => walk_at "lk"))
  | ((with_reducible refine' r_ixL ?h1 ?h2 ?_); (case h1 => first | assumption | exact SqL.of (by walk_at "lk")); (case h2 => exact rfl))
  | ((with_reducible refine' r_ixT ?h1 ?h2 ?_); (case h1 => first | assumption | exact SqT.of (by walk_at "lk")); (case h2 => exact rfl))
  | (with_reducible refine r_gsub ?_)
  | ((with_reducible refine' r_setL ?h1 ?h2 ?_); (case h1 => walk_at "lk"); (case h2 => exact rfl))
  | (with_reducible refine r_un ?_)
  | (with_reducible refine r_neg ?_)
  | (with_reducible refine r_iteT ?_)
  | (with_reducible refine r_iteNT ?_)
  | (with_reducible refine r_iteNF ?_)
  | (with_reducible refine r_iteF ?_)
  | (with_reducible refine r_next ?_)
  | (with_reducible refine r_drop ?_)
  | (with_reducible refine r_cont ?_)
  | (with_reducible refine r_brk ?_))
local macro_rules | `(tactic| walk_at "ty") => `(tactic| first
  | assumption
  | exact .base (.int _)
  | exact .base (.str _)
  | exact .base (.bl _)
  | exact .base .non
  | exact .byt _
  | exact .base (.lst (by walk_at "lk"))
  | exact .base (.tup (by walk_at "lk")))
local macro_rules | `(tactic| walk_at "rd2") => `(tactic| first
  | walk_at "rd1"
  | ((with_reducible refine' r_isi true ?ht ?hk ?_); (case ht => walk_at "ty"); (case hk => first | assumption | decide +kernel))
  | ((with_reducible refine' r_isi false ?ht ?hk ?_); (case ht => walk_at "ty"); (case hk => first | assumption | decide +kernel))
  | ((with_reducible refine' r_isiT2 true true ?hT ?ht ?hk ?hk2 ?_); (case hT => walk_at "lk"); (case ht => walk_at "ty"); (case hk => decide +kernel); (case hk2 => decide +kernel))
  | ((with_reducible refine' r_isiT2 true false ?hT ?ht ?hk ?hk2 ?_); (case hT => walk_at "lk"); (case ht => walk_at "ty"); (case hk => decide +kernel); (case hk2 => decide +kernel))
  | ((with_reducible refine' r_isiT2 false true ?hT ?ht ?hk ?hk2 ?_); (case hT => walk_at "lk"); (case ht => walk_at "ty"); (case hk => decide +kernel); (case hk2 => decide +kernel))
  | ((with_reducible refine' r_isiT2 false false ?hT ?ht ?hk ?hk2 ?_); (case hT => walk_at "lk"); (case ht => walk_at "ty"); (case hk => decide +kernel); (case hk2 => decide +kernel))
  | (with_reducible refine r_iteNT ?_)
  | ((show (if (!true) = true then _ else _)); refine r_iteNT ?_)
  | (with_reducible refine r_r1 ?_)
  | (with_reducible refine r_maks ?_)
  | (with_reducible refine r_sfld ?_)
  | ((with_reducible refine' r_sfldE ?h1 ?h2 ?h3 ?h4 ?_); (case h1 => walk_at "lk"); (case h2 => assumption); (case h3 => assumption); (case h4 => exact (show _ + 1 ≤ 1000 from Nat.le_of_ble_eq_true rfl)))
  | (with_reducible refine r_fld ?_)
  | (with_reducible refine r_join ?_)
  | (with_reducible refine r_jcons ?_)
  | (with_reducible refine r_jnil ?_)
  | ((with_reducible refine r_rLenY ?hz ?_); (case hz => first | assumption | (refine Nat.le_trans ?_ (by decide : 100000 ≤ sizeLine); omega)))
  | (with_reducible refine r_par ?_)
  | (with_reducible refine r_pair ?_)
  | (with_reducible refine r_par3 ?_)
  | (with_reducible refine r_trip ?_)
  | ((with_reducible refine' r_gtup ?h1 ?h2 ?_); (case h1 => first | assumption | exact SqT.of (by walk_at "lk")); (case h2 => exact rfl))
  | (with_reducible refine r_gcons ?_)
  | (with_reducible refine r_gnil ?_)
  | ((with_reducible refine' r_slL ?h1 ?_); (case h1 => first | assumption | exact SqL.of (by walk_at "lk")); (intro p hp))
  | (with_reducible refine r_iTup ?_)
  | ((with_reducible refine' r_tupE ?h1 ?_); (case h1 => first | assumption | exact SqT.of (by walk_at "lk")))
  | (with_reducible refine r_m1 ?_)
  | (with_reducible refine r_isZ ?_)
  | (with_reducible refine r_sl ?_)
  | (with_reducible refine r_noPart ?_)
  | (with_reducible refine r_part ?_)
  | (with_reducible refine r_partE ?_)
  | ((with_reducible refine r_slS ?hz ?_); (case hz => first | assumption | (refine Nat.le_trans ?_ (by decide : 100000 ≤ sizeLine); omega)))
  | ((with_reducible refine' r_inT ?h1 ?h2 ?h3 ?_); (case h1 => first | assumption | (exact SqT.of (by walk_at "lk"))); (case h2 => exact rfl); (case h3 => exact rfl))
  | ((with_reducible refine' r_inL ?h1 ?h2 ?h3 ?_); (case h1 => first | assumption | (exact SqL.of (by walk_at "lk"))); (case h2 => exact rfl); (case h3 => exact rfl))
  | (with_reducible refine r_lc ?_)
  | (with_reducible refine r_for ?_)
  | (with_reducible refine r_iStr ?_)
  | (with_reducible refine r_strE ?_)
  | (with_reducible refine r_iList ?_)
  | ((with_reducible refine' r_listE ?h1 ?_); (case h1 => first | assumption | exact SqL.of (by walk_at "lk")))
  | (with_reducible refine r_iRng1 ?_)
  | ((with_reducible refine' r_rngE ?h0 ?h1 ?_); (case h0 => first | omega | (split <;> omega)); (case h1 => first | omega | (split <;> omega))))
local macro_rules | `(tactic| walk_at "rd") => `(tactic| (repeat walk_at "rd2"))
local macro_rules | `(tactic| walk_at "st") => `(tactic| (repeat (first
  | (with_reducible refine r_gname ?_)
  | (with_reducible refine r_next ?_)
  | (with_reducible refine r_seq ?_)
  | (with_reducible refine r_asg ?_)
  | (with_reducible refine r_ret ?_)
  | (with_reducible refine r_for ?_)
  | (with_reducible refine r_iRng1 ?_)
  | (with_reducible refine r_iList ?_)
  | (with_reducible refine r_cons ?_)
  | (with_reducible refine r_par ?_)
  | (with_reducible refine r_par3 ?_))))
/-- a def's promise by the positional values and the keywords' values -/
def FnS (P : Program) (w : World) (K : PySem.W.Frag) (mg : Str → Option Value) (base : Heap) (k : Nat) (f : Addr) (ks : List Str) (sp : List V → List V → Hp → VK → Prop) : Prop :=
  ∀ (A : Around) (outer : List Env) (s : Shared) (H : Hp) (us ws : List Value) (vs zs : List V) (Q : VK) (E : XK), Room k A → Env0 P w K mg base A outer s H → Vals vs us → Vals zs ws → ws.length = ks.length → sp vs zs H Q →
    codeAny (model P w) A (.call (.ref f) ⟨us, ks.zip ws⟩) (CR CX0 outer P w H s Q E) s
theorem fnS_of {P : Program} {w : World} {K : PySem.W.Frag} {mg : Str → Option Value} {base : Heap} {k n : Nat} {f : Addr} {fd : FuncData} {ps ks : List Str} {sp : Sp} (F : FnOk P w K mg base CX0 k f fd ps sp) (hb : KBn K fd ps n ks (fun us ws => us ++ ws) (fun us ws => us ++ ws)) :
    FnS P w K mg base k f ks (fun vs zs H Q => vs.length = n ∧ ∀ E, sp (vs ++ zs) H Q E) := by
  intro A outer s H us ws vs zs Q E hr e0 rv rz hw ⟨hn, h⟩
  have KX : K.In s.heap := e0.mod.kin.keeps fun b o e => (e0.bs b o e).1
  exact F.run A outer s H _ (us ++ ws) (vs ++ zs) Q E hr e0 (hb.to s us ws KX (by rw [← rv.length]; exact hn) hw) (hb.rel rv rz) (h E)
/-! ### an own exception made, its fields stored and read, its kind asked -/
def tOstG (K : PySem.W.Frag) (f : Str) (to te : TE) : TS := fun D σ H => te σ H fun y H1 => to σ H1 fun x H2 => ∃ a C fI : Addr, x = .ref a ∧ ExG K C fI ∧ PySem.W.findIn K (.ref C) f = some none ∧ ((H2 a = some (exo a C none) ∧ ∀ dx, H2 dx = none → dx ≠ a → D.nx σ (upd (upd H2 dx (exd dx [(f, y)])) a (exo a C (some dx)))) ∨
  ∃ (dx : Addr) (fs : List (Str × V)), H2 a = some (exo a C (some dx)) ∧ H2 dx = some (exd dx fs) ∧ fs.length ≤ 900 ∧ D.nx σ (upd H2 dx (exd dx ((f, y) :: fs))))
section
variable {X : Cx} {o e : Expr} {f : Str} {p' pos : Pos} {to te : TE}
theorem ps_ostG (ho : PE X o to) (he : PE X e te) (hs : swapsWith e (some (.Attribute o f p')) pos.line X.env = pure false := by rfl) : PS X (.Assign [.Attribute o f p'] e pos) (tOstG X.K f to te) := by
  refine ⟨fun pins s σ H D I h => ?_⟩
  refine plainObj_wpAny_Assign_Attribute (thn (he.run pins s σ H _ I h) fun v s1 ⟨y, H1, I1, r1, q1⟩ => thn (ho.run pins s1 σ H1 _ I1 q1) fun u s2 ⟨x, H2, I2, r2, a, C, fI, ex, T, hno, q⟩ => ?_) hs
  subst ex
  obtain rfl : u = Value.ref a := r2
  rcases q with ⟨ea, q⟩ | ⟨dx, fs, ea, ed, hl, q⟩
  · exact ost_newG T I2 ea hno r1 fun dx s' n ne J => ⟨σ, _, J, q dx n ne⟩
  · exact ost_oldG T I2 ea ed hl hno r1 fun s' J => ⟨σ, _, J, q⟩
end
structure MakE (P : Program) (w : World) (K : PySem.W.Frag) (mg : Str → Option Value) (base : Heap) (k : Nat) (x : Str) (C : Addr) (ks : List Str) (sp : List V → List V → Hp → VK → Prop) : Prop where
  ex : ∃ f : Addr, ExG K C f ∧ FnS P w K mg base k f ks sp ∧ mg x = some (.ref C)
def tMakE (sp : List V → List V → Hp → VK → Prop) (m : Nat) (C : Addr) (t tk : TA) : TE := fun σ H Q => t σ H fun vs H1 => tk σ H1 fun zs H2 => zs.length = m ∧ vs.length ≤ 1000 ∧ ∀ a, H2 a = none → sp (.ref a :: vs) zs (upd H2 a (exo a C none)) (fun v H3 => v = .non ∧ Q (.ref a) H3)
section
variable {X : Cx} {j k : Nat} {x : Str} {C : Addr} {ks : List Str} {sp : List V → List V → Hp → VK → Prop} {e : Expr} {es : List Expr} {kws : List Keyword} {p pos : Pos} {t tk : TA}
theorem run_mke {pins : List (Addr × Obj)} {σ : L2.St} {H : Hp} {s : Shared} {Q : VK} {f : Addr} {us ws : List Value} {vs zs : List V} (T : ExG X.K C f) (F : FnS X.prog X.w X.K X.mg X.base k f ks sp) (hr : Room (k + 1) X.A)
    (I : L2.Inv X pins σ H s) (rv : Vals vs us) (rz : Vals zs ws) (hl : zs.length = ks.length) (hz : vs.length ≤ 1000)
    (h : ∀ a, H a = none → sp (.ref a :: vs) zs (upd H a (exo a C none)) (fun v H3 => v = .non ∧ Q (.ref a) H3)) :
    wpAny (model X.prog X.w) X.A (call (.ref C) us (ks.zip ws)) (EP X pins σ Q) X.xe s := by
  obtain ⟨B, newId, initId, bmA, B', bmB, FB, SF, hin, hov, t1, t2, t3⟩ := T.b
  obtain ⟨hp, g, dr, tk, os⟩ := s
  obtain ⟨nm, N, q, bs, bm, hd, sn, sub, ab, col, dd, k0, k1, k2, k3, k5, hC, hbm⟩ := PySem.W.excInit_of I.kIn hin
  have hsz : hp.objs.size ≤ hp.objs.size + 1 := Nat.le_succ _
  have hn : H (hp.objs.size + 1) = none := I.hok.fresh hsz
  have hq := h (hp.objs.size + 1) hn
  have kk : ∀ b o, hp.get? b = some o → ((hp.push (PySem.W.kdv_tup us)).push (PySem.HandSPX.excO C hp.objs.size)).get? b = some o := fun b o e => Heap.get?_push_of_some _ (Heap.get?_push_of_some _ e)
  have hget : ((hp.push (PySem.W.kdv_tup us)).push (PySem.HandSPX.excO C hp.objs.size)).get? (hp.objs.size + 1) = some (PySem.HandSPX.excO C hp.objs.size) := by heap_get
  have I2 : L2.Inv X pins σ (upd H (hp.objs.size + 1) (exo (hp.objs.size + 1) C none)) ⟨(hp.push (PySem.W.kdv_tup us)).push (PySem.HandSPX.excO C hp.objs.size), g, dr, tk, os⟩ :=
    I.laid (t' := tk) (a := hp.objs.size + 1) (o := exo (hp.objs.size + 1) C none) (h' := (hp.push (PySem.W.kdv_tup us)).push (PySem.HandSPX.excO C hp.objs.size)) kk hsz (exo_ok hget)
  have r2 : Vals (V.ref (hp.objs.size + 1) :: vs) (Value.ref (hp.objs.size + 1) :: us) := .cons rfl rv
  have hus : us.length ≤ sizeLine := by
    rw [← Paired.length rv, sizeLine_eq]
    omega
  have ran := F _ X.stack _ _ (Value.ref (hp.objs.size + 1) :: us) ws _ zs _ (fun _ _ _ => False) (hr.make C us (ks.zip ws)) (I2.env0.make C us (ks.zip ws)) r2 rz (rz.length.symm.trans hl) hq
  refine wpAny_call (ExK.call_kw FB ⟨(hbm B).trans t1, (hbm _).trans t2, (hbm _).trans t3⟩ hC (PySem.W.looks_findIn I.kIn T.iC) (fun self => PySem.W.bind_fn I.kIn self T.tI) hus (codeAny_mono ran fun r s' hq' => ?_))
  cases r with
  | error e => exact False.elim hq'
  | ok fl =>
    cases fl with
    | ret u =>
      obtain ⟨v, H', J', rel, ev, q⟩ := I2.after hq'
      rw [ev] at rel
      exact ⟨rel, V.ref (hp.objs.size + 1), H', J', rfl, q⟩
    | next => exact False.elim hq'
    | brk => exact False.elim hq'
    | cont => exact False.elim hq'
theorem pe_mke (c : MakE X.prog X.w X.K X.mg X.base k x C ks sp) (hr : Room j X.A) (hk : k + 1 ≤ j) (hg : Gl X x) (ha : PA X (e :: es) t) (hkw : PK X kws tk)
    (hall : (backToKw pos (keywordEach kws X.env)).all (·.1.isSome) = true := by rfl) (hks : (backToKw pos (keywordEach kws X.env)).filterMap (·.1) = ks := by rfl) (hdb : (x == ("__debug__" : Str)) = false := by decide)
    (he : starEach (e :: es) X.env = (false, eval e X.env) :: starEach es X.env := by rfl) (hpl : ((backTo pos (starEach (e :: es) X.env)).any (·.1) || (backToKw pos (keywordEach kws X.env)).any (·.1.isNone)) = false := by rfl) :
    PE X (.Call (.Name x p) (e :: es) kws pos) (tMakE sp ks.length C t tk) := by
  obtain ⟨f, T, F, hm⟩ := c.ex
  constructor
  intro pins s σ H Q I h
  refine wpAny_Call_Name_kw (ld_glob I hg hm ?_ hdb)
  refine PySem.W.callWith_KW (h₀ := X.base) I.ok.mod.kin T.kC hall (thn (ha.run pos pins s σ H _ I h) ?_) hpl he
  rintro us s1 ⟨vs, H1, I1, r1, q1⟩
  refine thn (hkw.run pos pins s1 σ H1 _ I1 q1) ?_
  rintro ws s2 ⟨zs, H2, I2, rz, hl, hz, q2⟩
  refine ⟨I2.kIn, ?_⟩
  rw [hks]
  exact run_mke T F (hr.mono hk) I2 r1 rz hl hz q2
theorem pe_mkeK (c : MakE X.prog X.w X.K X.mg X.base k x C ks sp) (hr : Room j X.A) (hk : k + 1 ≤ j) (hg : Gl X x) (hkw : PK X kws tk)
    (hall : (backToKw pos (keywordEach kws X.env)).all (·.1.isSome) = true := by rfl) (hks : (backToKw pos (keywordEach kws X.env)).filterMap (·.1) = ks := by rfl) (hdb : (x == ("__debug__" : Str)) = false := by decide)
    (hpl : ((backTo pos (starEach [] X.env)).any (·.1) || (backToKw pos (keywordEach kws X.env)).any (·.1.isNone)) = false := by rfl) :
    PE X (.Call (.Name x p) [] kws pos) (tMakE sp ks.length C tNil tk) := by
  obtain ⟨f, T, F, hm⟩ := c.ex
  constructor
  intro pins s σ H Q I h
  refine wpAny_Call_Name_kw (ld_glob I hg hm ?_ hdb)
  refine PySem.W.callWith_KW0 (h₀ := X.base) I.ok.mod.kin T.kC hall (thn (hkw.run pos pins s σ H _ I h) ?_) hpl
  rintro ws s2 ⟨zs, H2, I2, rz, hl, hz, q2⟩
  refine ⟨I2.kIn, ?_⟩
  rw [hks]
  exact run_mke T F (hr.mono hk) I2 .nil rz hl hz q2
theorem pe_mke0 (c : MakE X.prog X.w X.K X.mg X.base k x C [] sp) (hr : Room j X.A) (hk : k + 1 ≤ j) (hg : Gl X x) (hdb : (x == ("__debug__" : Str)) = false := by decide) : PE X (.Call (.Name x p) [] [] pos) (tMakE sp 0 C tNil tNil) := by
  obtain ⟨f, T, F, hm⟩ := c.ex
  constructor
  intro pins s σ H Q I h
  obtain ⟨hl, hz, q2⟩ := h
  refine wpAny_Call_Name_kw (ld_glob I hg hm ?_ hdb)
  exact PySem.W.callWith_K0 I.kIn T.kC (run_mke (us := []) (ws := []) T F (hr.mono hk) I .nil .nil rfl hz q2)
end
theorem r_make {sp : List V → List V → Hp → VK → Prop} {m : Nat} {C : Addr} {t tk : TA} {σ : L2.St} {H : Hp} {Q : VK} (h : t σ H fun vs H1 => tk σ H1 fun zs H2 => zs.length = m ∧ vs.length ≤ 1000 ∧ ∀ a, H2 a = none → sp (.ref a :: vs) zs (upd H2 a (exo a C none)) (fun v H3 => v = .non ∧ Q (.ref a) H3)) : tMakE sp m C t tk σ H Q := h
/-- x.f, x such an exception -/
def tExF (K : PySem.W.Frag) (ta : TE) (f : Str) : TE := fun σ H Q => ta σ H fun x H1 => ∃ (a C fI dx : Addr) (fs : List (Str × V)) (v : V), x = .ref a ∧ H1 a = some (exo a C (some dx)) ∧ H1 dx = some (exd dx fs) ∧ ExG K C fI ∧ PySem.W.findIn K (.ref C) f = some none ∧ fs.lookup f = some v ∧ Q v H1
theorem pe_exf {X : Cx} (K : PySem.W.Frag) {e : Expr} {te : TE} {pos : Pos} {n : Str} (he : PE X e te) (hb : attributeBase e n X.env (eval e X.env) = eval e X.env := by rfl) (h : X.K = K := by rfl) : PE X (.Attribute e n pos) (tExF K te n) := by
  subst h
  refine ⟨fun pins s σ H Q I h => ?_⟩
  refine attr_of hb (thn (he.run pins s σ H _ I h) fun u s1 hh => ?_)
  obtain ⟨x, H1, I1, rx, a, C, fI, dx, fs, v, ex, ea, ed, T, hno, l, q⟩ := hh
  subst ex
  obtain rfl : u = Value.ref a := rx
  obtain ⟨t1, ho⟩ := exo_at I1.hok ea
  obtain ⟨mA, hns, hr⟩ := exd_at I1.hok ed
  obtain ⟨od, hod, hl⟩ := lookIn_ns hns
  obtain ⟨u, hu, ru⟩ := RelO.some_of (v := v) (o := mA n) (by rw [← l]; exact hr n)
  have J : PySem.W.InstAt s1.heap a { cls := .ref C, dict := some dx, data := .fields #[.ref t1, .none, .none, .none, .bool false, .none] } C (some od) := ⟨ho, rfl, rfl, hod⟩
  exact PySem.HandSPX.exc_get I1.kIn J T.ga T.gg T.exC (PySem.W.findObj_own T.hd hno rfl (by rw [hl, hu])) (handed_of ru) ⟨v, H1, I1.tok _, ru, q⟩
/-- isinstance(x, c), x such an exception -/
def rIsX (K : PySem.W.Frag) : List V → Hp → VK → Prop := fun xs H Q => ∃ (a C fI : Addr) (d : Option Addr) (c : V) (cv : Value) (b : Bool), xs = [.ref a, c] ∧ H a = some (exo a C d) ∧ (∀ dx, d = some dx → ∃ fs, H dx = some (exd dx fs)) ∧ ExG K C fI ∧ ClsV c cv ∧ PySem.W.kitOne K (.ref C) cv = some b ∧ Q (.bl b) H
theorem call_isX {X : Cx} (K : PySem.W.Frag) (h : X.K = K := by rfl) : CallR X (.builtin "isinstance") (rIsX K) := by
  subst h
  intro pins s σ H xs us Q I r h
  obtain ⟨a, C, fI, d, c, cv, b, rfl, ha, hdx, T, kc, e, q⟩ := h
  obtain ⟨u1, u2, rfl, r1, r2⟩ := vals2 r
  cases (show u1 = Value.ref a from r1)
  have e2 := kc.eq r2
  subst e2
  obtain ⟨t1, ho⟩ := exo_at I.hok ha
  obtain ⟨od, J⟩ : ∃ od, PySem.W.InstAt s.heap a { cls := .ref C, dict := d, data := .fields #[.ref t1, .none, .none, .none, .bool false, .none] } C od := by
    cases d with
    | none => exact ⟨none, ho, rfl, rfl, trivial⟩
    | some dx =>
      obtain ⟨fs, ed⟩ := hdx dx rfl
      obtain ⟨mA, hns, _⟩ := exd_at I.hok ed
      obtain ⟨od, hod, _⟩ := lookIn_ns hns
      exact ⟨some od, ho, rfl, rfl, hod⟩
  have hcl : (PySem.W.clsIn X.K C).isSome = true := by
    obtain ⟨cd, hc, _⟩ := PySem.W.any_some T.hd
    rw [hc]
    rfl
  exact PySem.W.kia_one (PySem.W.kitx_exc hcl T.ga T.gg T.exC T.ha T.hn T.ht T.hm) I.kIn J e (fun z => nomatch z) fun tk => ⟨.bl b, H, I.tok tk, rfl, q⟩
end Th
namespace Th
open PySem PySem.Spec PyProof.Rows L2
local macro_rules | `(tactic| walk_at "lk") => `(tactic| first
  | assumption
  | exact upd_same
  | (refine upd_old (by assumption) ?_; walk_at "lk")
  | (refine upd_diff (by assumption) ?_; walk_at "lk")
  | (refine upd_diff (Ne.symm (by assumption)) ?_; walk_at "lk"))
local macro_rules | `(tactic| walk_at "cnd") => `(tactic| first
  | omega
  | (refine ⟨by omega, by omega⟩)
  | (refine ⟨by omega, by omega, by omega⟩)
  | (refine .inl ⟨by omega, by omega⟩)
  | (refine .inr ⟨by omega, by omega⟩)
  | (exact (show CPow _ _ from ⟨by decide, by decide, by omega⟩))
  | decide +kernel
  | (unfold CMulW; decide +kernel)
  | (exact wide_div (b := 64) (by omega) (by omega) (by decide) (by decide)))
local macro_rules | `(tactic| walk_at "rd1") => `(tactic| first
  | (with_reducible refine r_seq ?_)
  | (with_reducible refine r_asg ?_)
  | (with_reducible refine r_ret ?_)
  | (with_reducible refine r_if ?_)
  | (with_reducible refine r_gname ?_)
  | ((with_reducible refine' r_var ?hv ?_); (case hv => exact rfl))
  | (with_reducible refine r_c ?_)
  | (with_reducible refine r_op ?_)
  | (with_reducible refine r_I0 ?_)
  | ((with_reducible refine r_I ?hc ?_); (case hc => walk_at "cnd"))
  | (with_reducible refine r_test ?_)
  | (with_reducible refine r_tB ?_)
  | (with_reducible refine r_bl ?_)
  | (with_reducible refine r_not ?_)
  | (with_reducible refine r_and ?_)
  | (with_reducible refine r_or ?_)
  | (with_reducible refine r_ifE ?_)
  | (with_reducible refine r_notV ?_)
  | (with_reducible refine r_andV ?_)
  | (with_reducible refine r_orV ?_)
  | (with_reducible refine r_chain ?_)
  | (with_reducible refine r_cb ?_)
  | (with_reducible refine r_call ?_)
  | (with_reducible refine r_callN ?_)
  | (with_reducible refine r_nil ?_)
  | (with_reducible refine r_cons ?_)
  | ((with_reducible refine r_lst ?_))
  | ((with_reducible refine r_tup ?_))
  | ((with_reducible refine r_new ?_ ?_); (exact Nat.le_of_ble_eq_true rfl); (intro p hp))
  | (with_reducible refine r_rInt1 ?_)
  | (with_reducible refine r_rIntB ?_)
  | (with_reducible refine r_rAbs ?_)
  | (with_reducible refine r_rMin2 ?_)
  | (with_reducible refine r_rMax2 ?_)
  | ((with_reducible refine r_rLenZ ?hz ?_); (case hz => first | assumption | exact Nat.le_of_ble_eq_true rfl | (refine Nat.le_trans ?_ (by decide : 100000 ≤ sizeLine); omega)))
  | ((with_reducible refine r_addZ ?hz ?_); (case hz => (refine Nat.le_trans ?_ (by decide : 100000 ≤ sizeLine); first | omega | (simp only [Str.length] at *; simp; omega))))
  | ((with_reducible refine r_mulZ ?hz ?h0 ?h1 ?_); (case hz => first | omega | exact Nat.le_of_ble_eq_true rfl); (case h0 => omega); (case h1 => omega))
  | ((with_reducible refine' r_rLenQ ?h1 ?_); (case h1 => first | (exact .inl (by assumption)) | (exact .inr (by assumption)) | (exact .inl (SqL.of (by walk_at "lk"))) | (exact .inr (SqT.of (by walk_at "lk")))))
  | ((with_reducible refine r_eq ?hs ?_); (case hs => exact rfl))
  | ((with_reducible refine r_ne ?hs ?_); (case hs => exact rfl))
  | (with_reducible refine r_inC ?_)
  | ((with_reducible refine' r_cat ?h1 ?h2 ?h3 ?_); (case h1 => walk_at "lk"); (case h2 => walk_at "lk"); (case h3 => exact Nat.le_of_ble_eq_true rfl); (intro p hp))
  | ((with_reducible refine' r_rep ?h1 ?h2 ?h3 ?h4 ?_); (case h1 => walk_at "lk"); (case h2 => omega); (case h3 => omega); (case h4 => exact Nat.le_of_ble_eq_true rfl); (intro p hp))
  | ((with_reducible refine' r_append ?h1 ?h2 ?_); (case h1 => walk_at "lk"); (case h2 => first | exact (show _ + 1 ≤ sizeLine from Nat.le_of_ble_eq_true rfl) | exact Nat.lt_of_le_of_lt (by omega : _ ≤ 100000) (by decide)))
  | (with_reducible refine r_bm ?_)
  | ((with_reducible refine' r_tyL ?h1 ?_); (case h1 => walk_at "lk"))
  | ((with_reducible refine' r_ixL ?h1 ?h2 ?_); (case h1 => first | assumption | exact SqL.of (by walk_at "lk")); (case h2 => exact rfl))
  | ((with_reducible refine' r_ixT ?h1 ?h2 ?_); (case h1 => first | assumption | exact SqT.of (by walk_at "lk")); (case h2 => exact rfl))
  | (with_reducible refine r_gsub ?_)
  | ((with_reducible refine' r_setL ?h1 ?h2 ?_); (case h1 => walk_at "lk"); (case h2 => exact rfl))
  | (with_reducible refine r_un ?_)
  | (with_reducible refine r_neg ?_)
  | (with_reducible refine r_iteT ?_)
  | (with_reducible refine r_iteNT ?_)
  | (with_reducible refine r_iteNF ?_)
  | (with_reducible refine r_iteF ?_)
  | (with_reducible refine r_next ?_)
  | (with_reducible refine r_drop ?_)
  | (with_reducible refine r_cont ?_)
  | (with_reducible refine r_brk ?_))
local macro_rules | `(tactic| walk_at "ty") => `(tactic| first
  | assumption
  | exact .base (.int _)
  | exact .base (.str _)
  | exact .base (.bl _)
  | exact .base .non
  | exact .byt _
  | exact .base (.lst (by walk_at "lk"))
  | exact .base (.tup (by walk_at "lk")))
local macro_rules | `(tactic| walk_at "rd2") => `(tactic| first
  | walk_at "rd1"
  | ((with_reducible refine' r_isi true ?ht ?hk ?_); (case ht => walk_at "ty"); (case hk => first | assumption | decide +kernel))
  | ((with_reducible refine' r_isi false ?ht ?hk ?_); (case ht => walk_at "ty"); (case hk => first | assumption | decide +kernel))
  | ((with_reducible refine' r_isiT2 true true ?hT ?ht ?hk ?hk2 ?_); (case hT => walk_at "lk"); (case ht => walk_at "ty"); (case hk => decide +kernel); (case hk2 => decide +kernel))
  | ((with_reducible refine' r_isiT2 true false ?hT ?ht ?hk ?hk2 ?_); (case hT => walk_at "lk"); (case ht => walk_at "ty"); (case hk => decide +kernel); (case hk2 => decide +kernel))
  | ((with_reducible refine' r_isiT2 false true ?hT ?ht ?hk ?hk2 ?_); (case hT => walk_at "lk"); (case ht => walk_at "ty"); (case hk => decide +kernel); (case hk2 => decide +kernel))
  | ((with_reducible refine' r_isiT2 false false ?hT ?ht ?hk ?hk2 ?_); (case hT => walk_at "lk"); (case ht => walk_at "ty"); (case hk => decide +kernel); (case hk2 => decide +kernel))
  | (with_reducible refine r_iteNT ?_)
  | ((show (if (!true) = true then _ else _)); refine r_iteNT ?_)
  | (with_reducible refine r_r1 ?_)
  | (with_reducible refine r_maks ?_)
  | (with_reducible refine r_sfld ?_)
  | ((with_reducible refine' r_sfldE ?h1 ?h2 ?h3 ?h4 ?_); (case h1 => walk_at "lk"); (case h2 => assumption); (case h3 => assumption); (case h4 => exact (show _ + 1 ≤ 1000 from Nat.le_of_ble_eq_true rfl)))
  | (with_reducible refine r_fld ?_)
  | (with_reducible refine r_join ?_)
  | (with_reducible refine r_jcons ?_)
  | (with_reducible refine r_jnil ?_)
  | ((with_reducible refine r_rLenY ?hz ?_); (case hz => first | assumption | (refine Nat.le_trans ?_ (by decide : 100000 ≤ sizeLine); omega)))
  | (with_reducible refine r_par ?_)
  | (with_reducible refine r_pair ?_)
  | (with_reducible refine r_par3 ?_)
  | (with_reducible refine r_trip ?_)
  | ((with_reducible refine' r_gtup ?h1 ?h2 ?_); (case h1 => first | assumption | exact SqT.of (by walk_at "lk")); (case h2 => exact rfl))
  | (with_reducible refine r_gcons ?_)
  | (with_reducible refine r_gnil ?_)
  | ((with_reducible refine' r_slL ?h1 ?_); (case h1 => first | assumption | exact SqL.of (by walk_at "lk")); (intro p hp))
  | (with_reducible refine r_iTup ?_)
  | ((with_reducible refine' r_tupE ?h1 ?_); (case h1 => first | assumption | exact SqT.of (by walk_at "lk")))
  | (with_reducible refine r_m1 ?_)
  | (with_reducible refine r_isZ ?_)
  | (with_reducible refine r_sl ?_)
  | (with_reducible refine r_noPart ?_)
  | (with_reducible refine r_part ?_)
  | (with_reducible refine r_partE ?_)
  | ((with_reducible refine r_slS ?hz ?_); (case hz => first | assumption | (refine Nat.le_trans ?_ (by decide : 100000 ≤ sizeLine); omega)))
  | ((with_reducible refine' r_inT ?h1 ?h2 ?h3 ?_); (case h1 => first | assumption | (exact SqT.of (by walk_at "lk"))); (case h2 => exact rfl); (case h3 => exact rfl))
  | ((with_reducible refine' r_inL ?h1 ?h2 ?h3 ?_); (case h1 => first | assumption | (exact SqL.of (by walk_at "lk"))); (case h2 => exact rfl); (case h3 => exact rfl))
  | (with_reducible refine r_lc ?_)
  | (with_reducible refine r_for ?_)
  | (with_reducible refine r_iStr ?_)
  | (with_reducible refine r_strE ?_)
  | (with_reducible refine r_iList ?_)
  | ((with_reducible refine' r_listE ?h1 ?_); (case h1 => first | assumption | exact SqL.of (by walk_at "lk")))
  | (with_reducible refine r_iRng1 ?_)
  | ((with_reducible refine' r_rngE ?h0 ?h1 ?_); (case h0 => first | omega | (split <;> omega)); (case h1 => first | omega | (split <;> omega))))
local macro_rules | `(tactic| walk_at "rd") => `(tactic| (repeat walk_at "rd2"))
local macro_rules | `(tactic| walk_at "st") => `(tactic| (repeat (first
  | (with_reducible refine r_gname ?_)
  | (with_reducible refine r_next ?_)
  | (with_reducible refine r_seq ?_)
  | (with_reducible refine r_asg ?_)
  | (with_reducible refine r_ret ?_)
  | (with_reducible refine r_for ?_)
  | (with_reducible refine r_iRng1 ?_)
  | (with_reducible refine r_iList ?_)
  | (with_reducible refine r_cons ?_)
  | (with_reducible refine r_par ?_)
  | (with_reducible refine r_par3 ?_))))
def topS (i : Nat) : Stmt := PySem.Challenge.pw_tarhouse_k28_errors_made.main.body.getD i (.Pass ⟨0, 0, 0, 0⟩)
abbrev s_copied : Stmt := topS 1
abbrev N_copied : List Str := ["thing", "part", "key"]
theorem sc_copied : FnScope N_copied ["thing"] (defScope s_copied) := ⟨rfl, rfl, rfl, by decide +kernel, rfl, by decide +kernel, by decide +kernel⟩
abbrev s_NoBlob___init__ : Stmt := inClass (topS 3) 0
abbrev N_NoBlob___init__ : List Str := ["self", "numbers"]
theorem sc_NoBlob___init__ : FnScope N_NoBlob___init__ ["self", "numbers"] (defScope s_NoBlob___init__) := ⟨rfl, rfl, rfl, by decide +kernel, rfl, by decide +kernel, by decide +kernel⟩
abbrev s_NoData___init__ : Stmt := inClass (topS 4) 0
abbrev N_NoData___init__ : List Str := ["self", "thing"]
theorem sc_NoData___init__ : FnScope N_NoData___init__ ["self", "thing"] (defScope s_NoData___init__) := ⟨rfl, rfl, rfl, by decide +kernel, rfl, by decide +kernel, by decide +kernel⟩
abbrev s_NoName___init__ : Stmt := inClass (topS 8) 0
abbrev N_NoName___init__ : List Str := ["self", "name"]
theorem sc_NoName___init__ : FnScope N_NoName___init__ ["self", "name"] (defScope s_NoName___init__) := ⟨rfl, rfl, rfl, by decide +kernel, rfl, by decide +kernel, by decide +kernel⟩
abbrev s_NoMode___init__ : Stmt := inClass (topS 9) 0
abbrev N_NoMode___init__ : List Str := ["self", "mode"]
theorem sc_NoMode___init__ : FnScope N_NoMode___init__ ["self", "mode"] (defScope s_NoMode___init__) := ⟨rfl, rfl, rfl, by decide +kernel, rfl, by decide +kernel, by decide +kernel⟩
abbrev s_NoTime___init__ : Stmt := inClass (topS 16) 0
abbrev N_NoTime___init__ : List Str := ["self", "time"]
theorem sc_NoTime___init__ : FnScope N_NoTime___init__ ["self", "time"] (defScope s_NoTime___init__) := ⟨rfl, rfl, rfl, by decide +kernel, rfl, by decide +kernel, by decide +kernel⟩
abbrev s_NoSize___init__ : Stmt := inClass (topS 10) 0
abbrev N_NoSize___init__ : List Str := ["self", "size"]
theorem sc_NoSize___init__ : FnScope N_NoSize___init__ ["self", "size"] (defScope s_NoSize___init__) := ⟨rfl, rfl, rfl, by decide +kernel, rfl, by decide +kernel, by decide +kernel⟩
abbrev s_NoPieces___init__ : Stmt := inClass (topS 11) 0
abbrev N_NoPieces___init__ : List Str := ["self", "pieces"]
theorem sc_NoPieces___init__ : FnScope N_NoPieces___init__ ["self", "pieces"] (defScope s_NoPieces___init__) := ⟨rfl, rfl, rfl, by decide +kernel, rfl, by decide +kernel, by decide +kernel⟩
abbrev s_NoBlock___init__ : Stmt := inClass (topS 5) 0
abbrev N_NoBlock___init__ : List Str := ["self", "thing"]
theorem sc_NoBlock___init__ : FnScope N_NoBlock___init__ ["self", "thing"] (defScope s_NoBlock___init__) := ⟨rfl, rfl, rfl, by decide +kernel, rfl, by decide +kernel, by decide +kernel⟩
abbrev s_NoMember___init__ : Stmt := inClass (topS 6) 0
abbrev N_NoMember___init__ : List Str := ["self", "thing"]
theorem sc_NoMember___init__ : FnScope N_NoMember___init__ ["self", "thing"] (defScope s_NoMember___init__) := ⟨rfl, rfl, rfl, by decide +kernel, rfl, by decide +kernel, by decide +kernel⟩
abbrev s_TooMany___init__ : Stmt := inClass (topS 17) 0
abbrev N_TooMany___init__ : List Str := ["self", "limit"]
theorem sc_TooMany___init__ : FnScope N_TooMany___init__ ["self", "limit"] (defScope s_TooMany___init__) := ⟨rfl, rfl, rfl, by decide +kernel, rfl, by decide +kernel, by decide +kernel⟩
abbrev s_NoOffset___init__ : Stmt := inClass (topS 20) 0
abbrev N_NoOffset___init__ : List Str := ["self", "offset"]
theorem sc_NoOffset___init__ : FnScope N_NoOffset___init__ ["self", "offset"] (defScope s_NoOffset___init__) := ⟨rfl, rfl, rfl, by decide +kernel, rfl, by decide +kernel, by decide +kernel⟩
abbrev s_Torn___init__ : Stmt := inClass (topS 12) 0
abbrev N_Torn___init__ : List Str := ["self", "offset"]
theorem sc_Torn___init__ : FnScope N_Torn___init__ ["self", "offset"] (defScope s_Torn___init__) := ⟨rfl, rfl, rfl, by decide +kernel, rfl, by decide +kernel, by decide +kernel⟩
abbrev s_NoHouse___init__ : Stmt := inClass (topS 7) 0
abbrev N_NoHouse___init__ : List Str := ["self", "given"]
theorem sc_NoHouse___init__ : FnScope N_NoHouse___init__ ["self", "given"] (defScope s_NoHouse___init__) := ⟨rfl, rfl, rfl, by decide +kernel, rfl, by decide +kernel, by decide +kernel⟩
abbrev s_NoPath___init__ : Stmt := inClass (topS 22) 0
abbrev N_NoPath___init__ : List Str := ["self", "path"]
theorem sc_NoPath___init__ : FnScope N_NoPath___init__ ["self", "path"] (defScope s_NoPath___init__) := ⟨rfl, rfl, rfl, by decide +kernel, rfl, by decide +kernel, by decide +kernel⟩
abbrev s_NoIndex___init__ : Stmt := inClass (topS 21) 0
abbrev N_NoIndex___init__ : List Str := ["self", "index"]
theorem sc_NoIndex___init__ : FnScope N_NoIndex___init__ ["self", "index"] (defScope s_NoIndex___init__) := ⟨rfl, rfl, rfl, by decide +kernel, rfl, by decide +kernel, by decide +kernel⟩
abbrev s_NoText___init__ : Stmt := inClass (topS 14) 0
abbrev N_NoText___init__ : List Str := ["self", "text"]
theorem sc_NoText___init__ : FnScope N_NoText___init__ ["self", "text"] (defScope s_NoText___init__) := ⟨rfl, rfl, rfl, by decide +kernel, rfl, by decide +kernel, by decide +kernel⟩
abbrev s_NoCommand___init__ : Stmt := inClass (topS 15) 0
abbrev N_NoCommand___init__ : List Str := ["self", "command"]
theorem sc_NoCommand___init__ : FnScope N_NoCommand___init__ ["self", "command"] (defScope s_NoCommand___init__) := ⟨rfl, rfl, rfl, by decide +kernel, rfl, by decide +kernel, by decide +kernel⟩
abbrev s_Wrong___init__ : Stmt := inClass (topS 13) 0
abbrev N_Wrong___init__ : List Str := ["self", "offset", "field"]
theorem sc_Wrong___init__ : FnScope N_Wrong___init__ ["self", "offset", "field"] (defScope s_Wrong___init__) := ⟨rfl, rfl, rfl, by decide +kernel, rfl, by decide +kernel, by decide +kernel⟩
abbrev s_Refused___init__ : Stmt := inClass (topS 19) 0
abbrev N_Refused___init__ : List Str := ["self", "index", "word"]
theorem sc_Refused___init__ : FnScope N_Refused___init__ ["self", "index", "word"] (defScope s_Refused___init__) := ⟨rfl, rfl, rfl, by decide +kernel, rfl, by decide +kernel, by decide +kernel⟩
abbrev s_Closed___init__ : Stmt := inClass (topS 18) 0
abbrev N_Closed___init__ : List Str := ["self"]
theorem sc_Closed___init__ : FnScope N_Closed___init__ ["self"] (defScope s_Closed___init__) := ⟨rfl, rfl, rfl, by decide +kernel, rfl, by decide +kernel, by decide +kernel⟩
abbrev s_NoEdit___init__ : Stmt := inClass (topS 23) 0
abbrev N_NoEdit___init__ : List Str := ["self"]
theorem sc_NoEdit___init__ : FnScope N_NoEdit___init__ ["self"] (defScope s_NoEdit___init__) := ⟨rfl, rfl, rfl, by decide +kernel, rfl, by decide +kernel, by decide +kernel⟩
abbrev s__law_catch : Stmt := topS 25
abbrev N__law_catch : List Str := ["_law_error"]
theorem sc__law_catch : FnScope N__law_catch ["_law_error"] (defScope s__law_catch) := ⟨rfl, rfl, rfl, by decide +kernel, rfl, by decide +kernel, by decide +kernel⟩
abbrev s__law_kinds : Stmt := topS 26
abbrev N__law_kinds : List Str := ["_law_error", "_law_found"]
theorem sc__law_kinds : FnScope N__law_kinds ["_law_error"] (defScope s__law_kinds) := ⟨rfl, rfl, rfl, by decide +kernel, rfl, by decide +kernel, by decide +kernel⟩
abbrev s__law_fields_right : Stmt := topS 27
abbrev N__law_fields_right : List Str := ["_law_value", "_law_other", "_law_found", "_law_last", "_law_one"]
theorem sc__law_fields_right : FnScope N__law_fields_right ["_law_value", "_law_other"] (defScope s__law_fields_right) := ⟨rfl, rfl, rfl, by decide +kernel, rfl, by decide +kernel, by decide +kernel⟩
abbrev s_law : Stmt := topS 28
abbrev N_law : List Str := ["_law_script", "_law_bases", "_law_k", "_law_number", "_law_value", "_law_other", "_law_some", "_law_at", "_law_error", "_law_place"]
theorem sc_law : FnScope N_law ["_law_script"] (defScope s_law) := ⟨rfl, rfl, rfl, by decide +kernel, rfl, by decide +kernel, by decide +kernel⟩
/-! ### values and their copies -/
def scalD : PyData → Bool
  | .none | .bool _ | .int _ | .str _ => true
  | _ => false
def DV : PyData → Prop
  | .list ds => ds.all scalD = true ∧ ds.length ≤ 3
  | .tuple ds => ds.all scalD = true ∧ ds.length ≤ 3
  | .dict _ => False
  | _ => True
theorem Dp.scal {K : PySem.W.Frag} {H H' : Hp} {v : V} {d : PyData} (hd : scalD d = true) (h : Dp K H v d) : Dp K H' v d := by
  cases h with
  | non => exact .non
  | bl b => exact .bl b
  | int i => exact .int i
  | str x => exact .str x
  | lst _ _ => cases hd
  | tup _ _ => cases hd
theorem DpAll.scal {K : PySem.W.Frag} {H H' : Hp} : ∀ {vs : List V} {ds : List PyData}, ds.all scalD = true → DpAll K H vs ds → DpAll K H' vs ds
  | _, _, _, .nil => .nil
  | _, _, hd, .cons h t => by
    rw [List.all_cons, Bool.and_eq_true] at hd
    exact .cons (Dp.scal hd.1 h) (DpAll.scal hd.2 t)
theorem SqT.sameT {K : PySem.W.Frag} {H H' : Hp} {a : Addr} {xs : List V} (e : Same H H') (h : SqT K H a xs) : SqT K H' a xs :=
  h.elim (fun h => .inl (h.elim (fun h => .inl (e _ _ h)) fun ⟨o, h⟩ => .inr ⟨o, e _ _ h⟩)) fun h => .inr h
theorem Dp.sameD {K : PySem.W.Frag} {H H' : Hp} {v : V} {d : PyData} (e : Same H H') (hd : DV d) (h : Dp K H v d) : Dp K H' v d := by
  cases h with
  | non => exact .non
  | bl b => exact .bl b
  | int i => exact .int i
  | str x => exact .str x
  | lst h1 h2 => exact .lst (e.seq h1) (DpAll.scal hd.1 h2)
  | tup h1 h2 => exact .tup (SqT.sameT e h1) (DpAll.scal hd.1 h2)
theorem DpAll.len {K : PySem.W.Frag} {H : Hp} : ∀ {vs : List V} {ds : List PyData}, DpAll K H vs ds → vs.length = ds.length
  | _, _, .nil => rfl
  | _, _, .cons _ t => by rw [List.length_cons, List.length_cons, DpAll.len t]
theorem DpAll.mem {K : PySem.W.Frag} {H : Hp} : ∀ {vs : List V} {ds : List PyData}, DpAll K H vs ds → ∀ v ∈ vs, ∃ d ∈ ds, Dp K H v d
  | _, _, .nil, v, hv => nomatch hv
  | _, _, .cons h t, v, hv => by
    rcases List.mem_cons.mp hv with rfl | hv
    · exact ⟨_, List.mem_cons_self, h⟩
    · obtain ⟨d, h1, h2⟩ := DpAll.mem t v hv
      exact ⟨d, List.mem_cons_of_mem _ h1, h2⟩
def spCop0 (K : PySem.W.Frag) : Sp := fun vs H Q _ => ∃ v d, vs = [v] ∧ Dp K H v d ∧ scalD d = true ∧ Q v H
def spCop1 (K : PySem.W.Frag) : Sp := fun vs H Q _ => ∃ v d, vs = [v] ∧ Dp K H v d ∧ DV d ∧ ∀ v' H', Same H H' → Dp K H' v' d → Q v' H'
theorem sql_ty {K : PySem.W.Frag} {H : Hp} {a : Addr} {xs : List V} (h : SqL K H a xs) : TyX K H (.ref a) (.type "list") := by
  rcases h with (h | ⟨o, h⟩) | ⟨o, its, n, hk, hc, _⟩
  · exact .base (.lst h)
  · exact .base (.frz h)
  · exact .kList hk hc
theorem sqt_ty {K : PySem.W.Frag} {H : Hp} {a : Addr} {xs : List V} (h : SqT K H a xs) : TyX K H (.ref a) (.type "tuple") := by
  rcases h with (h | ⟨o, h⟩) | ⟨o, its, n, hk, hc, _⟩
  · exact .base (.tup h)
  · exact .fTuple h
  · exact .kTuple hk hc
theorem r_then {ta : TE} {k : V → Hp → VK → Prop} {σ : L2.St} {H : Hp} {Q : VK} (h : ta σ H fun x H1 => k x H1 Q) : tThen ta k σ H Q := h
section
variable {P : Program} {w : World} {K : PySem.W.Frag} {mg : Str → Option Value} {base : Heap}
theorem ok_cop0 {f : Addr} {fd : FuncData} {k : Nat} (F : Fun K "copied" "copied" s_copied f fd) (m1 : mg "isinstance" = none) (m2 : mg "list" = none) (m3 : mg "tuple" = none) (m4 : mg "dict" = none) (c_copied : CalT P w K mg base 0 "copied" (fun _ _ _ _ => False)) : FnOk P w K mg base CX0 (k + 1) f fd ["thing"] (spCop0 K) := by
  refine F.ok sc_copied (fun vs H Q E h => ?_) (fun cdv A outer s H vs Q E hr h => ?_)
  · obtain ⟨v, d, rfl, _⟩ := h
    rfl
  · obtain ⟨v, d, rfl, hv, hd, q⟩ := h
    have hu := hu_of hr
    have nd := sc_copied.nd
    refine ⟨_, (pss_cons (ps_if (pt_val (pe_callB (call_isiK1 K) (by rfl) (by assumption) (by decide +kernel) (pa_cons (pv 0) (pa_cons (pe_bltn (v := .ty "list") (by rfl) (by assumption) (by decide +kernel) rfl) pa_nil))))
        (pss_one (ps_ret (pe_lc (own := [("part", 1)]) (g := (gName 1)) (tt := tYes) rfl nd (pi_list (pv 0)) (blkOk_by (N := N_copied) (sc := defScope s_copied) (by decide +kernel)) (fun _ _ _ _ _ => (pg_name (i := 1) nd rfl (Or.inl rfl))) (fun _ _ _ _ _ => pts_nil) (fun _ _ _ _ _ => (pe_cc c_copied hr (by omega) (by rfl) (pa_cons (pv 1) pa_nil))))))
        pss_nil)
      (pss_cons (ps_if (pt_val (pe_callB (call_isiK1 K) (by rfl) (by assumption) (by decide +kernel) (pa_cons (pv 0) (pa_cons (pe_bltn (v := .ty "tuple") (by rfl) (by assumption) (by decide +kernel) rfl) pa_nil))))
        (pss_one (ps_ret (pe_tupleOf (by rfl) (by assumption) (pe_lc (own := [("part", 1)]) (g := (gName 1)) (tt := tYes) rfl nd (pi_tup (pv 0)) (blkOk_by (N := N_copied) (sc := defScope s_copied) (by decide +kernel)) (fun _ _ _ _ _ => (pg_name (i := 1) nd rfl (Or.inl rfl))) (fun _ _ _ _ _ => pts_nil) (fun _ _ _ _ _ => (pe_cc c_copied hr (by omega) (by rfl) (pa_cons (pv 1) pa_nil)))))))
        pss_nil)
      (pss_cons (ps_if (pt_val (pe_callB (call_isiK1 K) (by rfl) (by assumption) (by decide +kernel) (pa_cons (pv 0) (pa_cons (pe_bltn (v := .ty "dict") (by rfl) (by assumption) (by decide +kernel) rfl) pa_nil))))
        (pss_one ps_never)
        pss_nil)
      (pss_one (ps_ret (pv 0)))))), ?_⟩
    cases hv with
    | non => walk_at "rd"; exact q
    | bl b => walk_at "rd"; exact q
    | int i => walk_at "rd"; exact q
    | str x => walk_at "rd"; exact q
    | lst _ _ => cases hd
    | tup _ _ => cases hd
theorem ok_cop1 {f : Addr} {fd : FuncData} {k : Nat} (F : Fun K "copied" "copied" s_copied f fd) (m1 : mg "isinstance" = none) (m2 : mg "list" = none) (m3 : mg "tuple" = none) (m4 : mg "dict" = none) (c_copied : CalT P w K mg base 1 "copied" (spCop0 K)) : FnOk P w K mg base CX0 (k + 2) f fd ["thing"] (spCop1 K) := by
  refine F.ok sc_copied (fun vs H Q E h => ?_) (fun cdv A outer s H vs Q E hr h => ?_)
  · obtain ⟨v, d, rfl, _⟩ := h
    rfl
  · obtain ⟨v, d, rfl, hv, hd, q⟩ := h
    have hu := hu_of hr
    have nd := sc_copied.nd
    refine ⟨_, (pss_cons (ps_if (pt_val (pe_callB (call_isiK1 K) (by rfl) (by assumption) (by decide +kernel) (pa_cons (pv 0) (pa_cons (pe_bltn (v := .ty "list") (by rfl) (by assumption) (by decide +kernel) rfl) pa_nil))))
        (pss_one (ps_ret (pe_lc (own := [("part", 1)]) (g := (gName 1)) (tt := tYes) rfl nd (pi_list (pv 0)) (blkOk_by (N := N_copied) (sc := defScope s_copied) (by decide +kernel)) (fun _ _ _ _ _ => (pg_name (i := 1) nd rfl (Or.inl rfl))) (fun _ _ _ _ _ => pts_nil) (fun _ _ _ _ _ => (pe_cc c_copied hr (by omega) (by rfl) (pa_cons (pv 1) pa_nil))))))
        pss_nil)
      (pss_cons (ps_if (pt_val (pe_callB (call_isiK1 K) (by rfl) (by assumption) (by decide +kernel) (pa_cons (pv 0) (pa_cons (pe_bltn (v := .ty "tuple") (by rfl) (by assumption) (by decide +kernel) rfl) pa_nil))))
        (pss_one (ps_ret (pe_tupleOf (by rfl) (by assumption) (pe_lc (own := [("part", 1)]) (g := (gName 1)) (tt := tYes) rfl nd (pi_tup (pv 0)) (blkOk_by (N := N_copied) (sc := defScope s_copied) (by decide +kernel)) (fun _ _ _ _ _ => (pg_name (i := 1) nd rfl (Or.inl rfl))) (fun _ _ _ _ _ => pts_nil) (fun _ _ _ _ _ => (pe_cc c_copied hr (by omega) (by rfl) (pa_cons (pv 1) pa_nil)))))))
        pss_nil)
      (pss_cons (ps_if (pt_val (pe_callB (call_isiK1 K) (by rfl) (by assumption) (by decide +kernel) (pa_cons (pv 0) (pa_cons (pe_bltn (v := .ty "dict") (by rfl) (by assumption) (by decide +kernel) rfl) pa_nil))))
        (pss_one ps_never)
        pss_nil)
      (pss_one (ps_ret (pv 0)))))), ?_⟩
    cases hv with
    | non => walk_at "rd"; exact q _ _ (Same.refl _) .non
    | bl b => walk_at "rd"; exact q _ _ (Same.refl _) (.bl b)
    | int i => walk_at "rd"; exact q _ _ (Same.refl _) (.int i)
    | str x => walk_at "rd"; exact q _ _ (Same.refl _) (.str x)
    | @lst a xs ds h1 h2 =>
      have ty := sql_ty h1
      walk_at "rd"
      intro D hD
      have hl : xs.length ≤ 3 := by rw [DpAll.len h2]; exact hd.2
      refine lc_map (cs := xs) (enc := id) (f := id) (by rw [List.map_id]; exact walk_list) hD (Nat.lt_of_le_of_lt hl (by decide)) (fun H' e => e.seq h1) (fun x => rfl) ?_ ?_
      · intro c hc H' e Q2 k2
        obtain ⟨dc, hdc, hcd⟩ := DpAll.mem h2 c hc
        walk_at "rd"
        refine ⟨c, dc, rfl, Dp.scal (List.all_eq_true.mp hd.1 dc hdc) hcd, List.all_eq_true.mp hd.1 dc hdc, ?_⟩
        exact k2 _ (Same.refl _)
      · intro H' e hb
        rw [List.map_id] at hb
        exact q _ _ e (.lst (SqL.of hb) (DpAll.scal hd.1 h2))
    | @tup a xs ds h1 h2 =>
      have ty := sqt_ty h1
      walk_at "rd"
      refine r_then ?_
      walk_at "rd"
      intro D hD
      have hl : xs.length ≤ 3 := by rw [DpAll.len h2]; exact hd.2
      refine lc_map (cs := xs) (enc := id) (f := id) (by rw [List.map_id]; exact walk_tup) hD (Nat.lt_of_le_of_lt hl (by decide)) (fun H' e => SqT.sameT e h1) (fun x => rfl) ?_ ?_
      · intro c hc H' e Q2 k2
        obtain ⟨dc, hdc, hcd⟩ := DpAll.mem h2 c hc
        walk_at "rd"
        refine ⟨c, dc, rfl, Dp.scal (List.all_eq_true.mp hd.1 dc hdc) hcd, List.all_eq_true.mp hd.1 dc hdc, ?_⟩
        exact k2 _ (Same.refl _)
      · intro H' e hb
        rw [List.map_id] at hb
        refine .inl ⟨D, xs, rfl, SqL.of hb, fun T hT => ?_⟩
        exact q _ _ (Same.trans e (same_new hT)) (.tup (SqT.of upd_same) (DpAll.scal hd.1 h2))
end
end Th
namespace Th
open PySem PySem.Spec PyProof.Rows L2
local macro_rules | `(tactic| walk_at "lk") => `(tactic| first
  | assumption
  | exact upd_same
  | (refine upd_old (by assumption) ?_; walk_at "lk")
  | (refine upd_diff (by assumption) ?_; walk_at "lk")
  | (refine upd_diff (Ne.symm (by assumption)) ?_; walk_at "lk"))
local macro_rules | `(tactic| walk_at "cnd") => `(tactic| first
  | omega
  | (refine ⟨by omega, by omega⟩)
  | (refine ⟨by omega, by omega, by omega⟩)
  | (refine .inl ⟨by omega, by omega⟩)
  | (refine .inr ⟨by omega, by omega⟩)
  | (exact (show CPow _ _ from ⟨by decide, by decide, by omega⟩))
  | decide +kernel
  | (unfold CMulW; decide +kernel)
  | (exact wide_div (b := 64) (by omega) (by omega) (by decide) (by decide)))
local macro_rules | `(tactic| walk_at "rd1") => `(tactic| first
  | (with_reducible refine r_seq ?_)
  | (with_reducible refine r_asg ?_)
  | (with_reducible refine r_ret ?_)
  | (with_reducible refine r_if ?_)
  | (with_reducible refine r_gname ?_)
  | ((with_reducible refine' r_var ?hv ?_); (case hv => exact rfl))
  | (with_reducible refine r_c ?_)
  | (with_reducible refine r_op ?_)
  | (with_reducible refine r_I0 ?_)
  | ((with_reducible refine r_I ?hc ?_); (case hc => walk_at "cnd"))
  | (with_reducible refine r_test ?_)
  | (with_reducible refine r_tB ?_)
  | (with_reducible refine r_bl ?_)
  | (with_reducible refine r_not ?_)
  | (with_reducible refine r_and ?_)
  | (with_reducible refine r_or ?_)
  | (with_reducible refine r_ifE ?_)
  | (with_reducible refine r_notV ?_)
  | (with_reducible refine r_andV ?_)
  | (with_reducible refine r_orV ?_)
  | (with_reducible refine r_chain ?_)
  | (with_reducible refine r_cb ?_)
  | (with_reducible refine r_call ?_)
  | (with_reducible refine r_callN ?_)
  | (with_reducible refine r_nil ?_)
  | (with_reducible refine r_cons ?_)
  | ((with_reducible refine r_lst ?_))
  | ((with_reducible refine r_tup ?_))
  | ((with_reducible refine r_new ?_ ?_); (exact Nat.le_of_ble_eq_true rfl); (intro p hp))
  | (with_reducible refine r_rInt1 ?_)
  | (with_reducible refine r_rIntB ?_)
  | (with_reducible refine r_rAbs ?_)
  | (with_reducible refine r_rMin2 ?_)
  | (with_reducible refine r_rMax2 ?_)
  | ((with_reducible refine r_rLenZ ?hz ?_); (case hz => first | assumption | exact Nat.le_of_ble_eq_true rfl | (refine Nat.le_trans ?_ (by decide : 100000 ≤ sizeLine); omega)))
  | ((with_reducible refine r_addZ ?hz ?_); (case hz => (refine Nat.le_trans ?_ (by decide : 100000 ≤ sizeLine); first | omega | (simp only [Str.length] at *; simp; omega))))
  | ((with_reducible refine r_mulZ ?hz ?h0 ?h1 ?_); (case hz => first | omega | exact Nat.le_of_ble_eq_true rfl); (case h0 => omega); (case h1 => omega))
  | ((with_reducible refine' r_rLenQ ?h1 ?_); (case h1 => first | (exact .inl (by assumption)) | (exact .inr (by assumption)) | (exact .inl (SqL.of (by walk_at "lk"))) | (exact .inr (SqT.of (by walk_at "lk")))))
  | ((with_reducible refine r_eq ?hs ?_); (case hs => exact rfl))
  | ((with_reducible refine r_ne ?hs ?_); (case hs => exact rfl))
  | (with_reducible refine r_inC ?_)
  | ((with_reducible refine' r_cat ?h1 ?h2 ?h3 ?_); (case h1 => walk_at "lk"); (case h2 => walk_at "lk"); (case h3 => exact Nat.le_of_ble_eq_true rfl); (intro p hp))
  | ((with_reducible refine' r_rep ?h1 ?h2 ?h3 ?h4 ?_); (case h1 => walk_at "lk"); (case h2 => omega); (case h3 => omega); (case h4 => exact Nat.le_of_ble_eq_true rfl); (intro p hp))
  | ((with_reducible refine' r_append ?h1 ?h2 ?_); (case h1 => walk_at "lk"); (case h2 => first | exact (show _ + 1 ≤ sizeLine from Nat.le_of_ble_eq_true rfl) | exact Nat.lt_of_le_of_lt (by omega : _ ≤ 100000) (by decide)))
  | (with_reducible refine r_bm ?_)
  | ((with_reducible refine' r_tyL ?h1 ?_); (case h1 => walk_at "lk"))
  | ((with_reducible refine' r_ixL ?h1 ?h2 ?_); (case h1 => first | assumption | exact SqL.of (by walk_at "lk")); (case h2 => exact rfl))
  | ((with_reducible refine' r_ixT ?h1 ?h2 ?_); (case h1 => first | assumption | exact SqT.of (by walk_at "lk")); (case h2 => exact rfl))
  | (with_reducible refine r_gsub ?_)
  | ((with_reducible refine' r_setL ?h1 ?h2 ?_); (case h1 => walk_at "lk"); (case h2 => exact rfl))
  | (with_reducible refine r_un ?_)
  | (with_reducible refine r_neg ?_)
  | (with_reducible refine r_iteT ?_)
  | (with_reducible refine r_iteNT ?_)
  | (with_reducible refine r_iteNF ?_)
  | (with_reducible refine r_iteF ?_)
  | (with_reducible refine r_next ?_)
  | (with_reducible refine r_drop ?_)
  | (with_reducible refine r_cont ?_)
  | (with_reducible refine r_brk ?_))
local macro_rules | `(tactic| walk_at "ty") => `(tactic| first
  | assumption
  | exact .base (.int _)
  | exact .base (.str _)
  | exact .base (.bl _)
  | exact .base .non
  | exact .byt _
  | exact .base (.lst (by walk_at "lk"))
  | exact .base (.tup (by walk_at "lk")))
local macro_rules | `(tactic| walk_at "rd2") => `(tactic| first
  | walk_at "rd1"
  | ((with_reducible refine' r_isi true ?ht ?hk ?_); (case ht => walk_at "ty"); (case hk => first | assumption | decide +kernel))
  | ((with_reducible refine' r_isi false ?ht ?hk ?_); (case ht => walk_at "ty"); (case hk => first | assumption | decide +kernel))
  | ((with_reducible refine' r_isiT2 true true ?hT ?ht ?hk ?hk2 ?_); (case hT => walk_at "lk"); (case ht => walk_at "ty"); (case hk => decide +kernel); (case hk2 => decide +kernel))
  | ((with_reducible refine' r_isiT2 true false ?hT ?ht ?hk ?hk2 ?_); (case hT => walk_at "lk"); (case ht => walk_at "ty"); (case hk => decide +kernel); (case hk2 => decide +kernel))
  | ((with_reducible refine' r_isiT2 false true ?hT ?ht ?hk ?hk2 ?_); (case hT => walk_at "lk"); (case ht => walk_at "ty"); (case hk => decide +kernel); (case hk2 => decide +kernel))
  | ((with_reducible refine' r_isiT2 false false ?hT ?ht ?hk ?hk2 ?_); (case hT => walk_at "lk"); (case ht => walk_at "ty"); (case hk => decide +kernel); (case hk2 => decide +kernel))
  | (with_reducible refine r_iteNT ?_)
  | ((show (if (!true) = true then _ else _)); refine r_iteNT ?_)
  | (with_reducible refine r_r1 ?_)
  | (with_reducible refine r_maks ?_)
  | (with_reducible refine r_sfld ?_)
  | ((with_reducible refine' r_sfldE ?h1 ?h2 ?h3 ?h4 ?_); (case h1 => walk_at "lk"); (case h2 => assumption); (case h3 => assumption); (case h4 => exact (show _ + 1 ≤ 1000 from Nat.le_of_ble_eq_true rfl)))
  | (with_reducible refine r_fld ?_)
  | (with_reducible refine r_join ?_)
  | (with_reducible refine r_jcons ?_)
  | (with_reducible refine r_jnil ?_)
  | ((with_reducible refine r_rLenY ?hz ?_); (case hz => first | assumption | (refine Nat.le_trans ?_ (by decide : 100000 ≤ sizeLine); omega)))
  | (with_reducible refine r_par ?_)
  | (with_reducible refine r_pair ?_)
  | (with_reducible refine r_par3 ?_)
  | (with_reducible refine r_trip ?_)
  | ((with_reducible refine' r_gtup ?h1 ?h2 ?_); (case h1 => first | assumption | exact SqT.of (by walk_at "lk")); (case h2 => exact rfl))
  | (with_reducible refine r_gcons ?_)
  | (with_reducible refine r_gnil ?_)
  | ((with_reducible refine' r_slL ?h1 ?_); (case h1 => first | assumption | exact SqL.of (by walk_at "lk")); (intro p hp))
  | (with_reducible refine r_iTup ?_)
  | ((with_reducible refine' r_tupE ?h1 ?_); (case h1 => first | assumption | exact SqT.of (by walk_at "lk")))
  | (with_reducible refine r_m1 ?_)
  | (with_reducible refine r_isZ ?_)
  | (with_reducible refine r_sl ?_)
  | (with_reducible refine r_noPart ?_)
  | (with_reducible refine r_part ?_)
  | (with_reducible refine r_partE ?_)
  | ((with_reducible refine r_slS ?hz ?_); (case hz => first | assumption | (refine Nat.le_trans ?_ (by decide : 100000 ≤ sizeLine); omega)))
  | ((with_reducible refine' r_inT ?h1 ?h2 ?h3 ?_); (case h1 => first | assumption | (exact SqT.of (by walk_at "lk"))); (case h2 => exact rfl); (case h3 => exact rfl))
  | ((with_reducible refine' r_inL ?h1 ?h2 ?h3 ?_); (case h1 => first | assumption | (exact SqL.of (by walk_at "lk"))); (case h2 => exact rfl); (case h3 => exact rfl))
  | (with_reducible refine r_lc ?_)
  | (with_reducible refine r_for ?_)
  | (with_reducible refine r_iStr ?_)
  | (with_reducible refine r_strE ?_)
  | (with_reducible refine r_iList ?_)
  | ((with_reducible refine' r_listE ?h1 ?_); (case h1 => first | assumption | exact SqL.of (by walk_at "lk")))
  | (with_reducible refine r_iRng1 ?_)
  | ((with_reducible refine' r_rngE ?h0 ?h1 ?_); (case h0 => first | omega | (split <;> omega)); (case h1 => first | omega | (split <;> omega))))
local macro_rules | `(tactic| walk_at "rd") => `(tactic| (repeat walk_at "rd2"))
local macro_rules | `(tactic| walk_at "st") => `(tactic| (repeat (first
  | (with_reducible refine r_gname ?_)
  | (with_reducible refine r_next ?_)
  | (with_reducible refine r_seq ?_)
  | (with_reducible refine r_asg ?_)
  | (with_reducible refine r_ret ?_)
  | (with_reducible refine r_for ?_)
  | (with_reducible refine r_iRng1 ?_)
  | (with_reducible refine r_iList ?_)
  | (with_reducible refine r_cons ?_)
  | (with_reducible refine r_par ?_)
  | (with_reducible refine r_par3 ?_))))
/-! ### the errors' own __init__ -/
theorem r_ostG {K : PySem.W.Frag} {f : Str} {to te : TE} {D : Ends} {σ : L2.St} {H : Hp} (h : te σ H fun y H1 => to σ H1 fun x H2 => ∃ a C fI : Addr, x = .ref a ∧ ExG K C fI ∧ PySem.W.findIn K (.ref C) f = some none ∧ ((H2 a = some (exo a C none) ∧ ∀ dx, H2 dx = none → dx ≠ a → D.nx σ (upd (upd H2 dx (exd dx [(f, y)])) a (exo a C (some dx)))) ∨
  ∃ (dx : Addr) (fs : List (Str × V)), H2 a = some (exo a C (some dx)) ∧ H2 dx = some (exd dx fs) ∧ fs.length ≤ 900 ∧ D.nx σ (upd H2 dx (exd dx ((f, y) :: fs))))) : tOstG K f to te D σ H := h
def spI0 (C : Addr) : Sp := fun vs H Q _ => ∃ a, vs = [.ref a] ∧ H a = some (exo a C none) ∧ Q .non H
def spI1 (K : PySem.W.Frag) (C : Addr) (f : Str) : Sp := fun vs H Q _ => ∃ a v d, vs = [.ref a, v] ∧ H a = some (exo a C none) ∧ Dp K H v d ∧ DV d ∧ ∀ v' dx H', (∀ b o, b ≠ a → H b = some o → H' b = some o) → H' a = some (exo a C (some dx)) → H' dx = some (exd dx [(f, v')]) → Dp K H' v' d → Q .non H'
def spI2 (K : PySem.W.Frag) (C : Addr) (f g : Str) : Sp := fun vs H Q _ => ∃ a v o d d', vs = [.ref a, v, o] ∧ H a = some (exo a C none) ∧ Dp K H v d ∧ DV d ∧ Dp K H o d' ∧ DV d' ∧ ∀ v' o' dx H', (∀ b u, b ≠ a → H b = some u → H' b = some u) → H' a = some (exo a C (some dx)) → H' dx = some (exd dx [(g, o'), (f, v')]) → Dp K H' v' d → Dp K H' o' d' → Q .non H'
theorem Dp.updD {K : PySem.W.Frag} {H : Hp} {a dx : Addr} {u w : HO} {v : V} {d : PyData} (hd : DV d) (h : Dp K H v d) (ha : ∃ C, H a = some (exo a C none)) (hdx : H dx = none) : Dp K (upd (upd H dx u) a w) v d := by
  obtain ⟨C, ha⟩ := ha
  cases h with
  | non => exact .non
  | bl b => exact .bl b
  | int i => exact .int i
  | str x => exact .str x
  | @lst p xs ds h1 h2 =>
    refine .lst ?_ (DpAll.scal hd.1 h2)
    rcases h1 with (h | ⟨o, h⟩) | h
    · exact .inl (.inl (by rw [upd_ne (at_ne ha h (fun z => by have z' : HO.ext _ = HO.lst xs := z; cases z')), upd_ne (ne_of_none h hdx)]; exact h))
    · exact .inl (.inr ⟨o, by rw [upd_ne (at_ne ha h exo_frz), upd_ne (ne_of_none h hdx)]; exact h⟩)
    · exact .inr h
  | @tup p xs ds h1 h2 =>
    refine .tup ?_ (DpAll.scal hd.1 h2)
    rcases h1 with (h | ⟨o, h⟩) | h
    · exact .inl (.inl (by rw [upd_ne (at_ne ha h exo_tup), upd_ne (ne_of_none h hdx)]; exact h))
    · exact .inl (.inr ⟨o, by rw [upd_ne (at_ne ha h exo_frz), upd_ne (ne_of_none h hdx)]; exact h⟩)
    · exact .inr h
theorem Dp.updX {K : PySem.W.Frag} {H : Hp} {dx : Addr} {fs : List (Str × V)} {u : HO} {v : V} {d : PyData} (hd : DV d) (h : Dp K H v d) (hdx : H dx = some (exd dx fs)) : Dp K (upd H dx u) v d := by
  cases h with
  | non => exact .non
  | bl b => exact .bl b
  | int i => exact .int i
  | str x => exact .str x
  | @lst p xs ds h1 h2 =>
    refine .lst ?_ (DpAll.scal hd.1 h2)
    rcases h1 with (h | ⟨o, h⟩) | h
    · exact .inl (.inl (by rw [upd_ne (at_ne hdx h (fun z => by have z' : HO.ext _ = HO.lst xs := z; cases z'))]; exact h))
    · exact .inl (.inr ⟨o, by rw [upd_ne (at_ne hdx h (fun z => by have z' : HO.ext _ = HO.frz o _ := z; cases z'))]; exact h⟩)
    · exact .inr h
  | @tup p xs ds h1 h2 =>
    refine .tup ?_ (DpAll.scal hd.1 h2)
    rcases h1 with (h | ⟨o, h⟩) | h
    · exact .inl (.inl (by rw [upd_ne (at_ne hdx h exd_tup)]; exact h))
    · exact .inl (.inr ⟨o, by rw [upd_ne (at_ne hdx h (fun z => by have z' : HO.ext _ = HO.frz o _ := z; cases z'))]; exact h⟩)
    · exact .inr h
section
variable {P : Program} {w : World} {K : PySem.W.Frag} {mg : Str → Option Value} {base : Heap}
theorem ok_iNoBlob {fI C : Addr} {fd : FuncData} {k : Nat} (F : Fun K "__init__" "NoBlob.__init__" s_NoBlob___init__ fI fd) (T : ExG K C fI) (hno : PySem.W.findIn K (.ref C) "numbers" = some none) (c_copied : CalT P w K mg base 2 "copied" (spCop1 K)) : FnOk P w K mg base CX0 (k + 3) fI fd ["self", "numbers"] (spI1 K C "numbers") := by
  refine F.ok sc_NoBlob___init__ (fun vs H Q E h => ?_) (fun cdv A outer s H vs Q E hr h => ?_)
  · obtain ⟨a, v, d, rfl, _⟩ := h
    rfl
  · obtain ⟨a, v, d, rfl, ha, hv, hd, q⟩ := h
    have hu := hu_of hr
    have nd := sc_NoBlob___init__.nd
    refine ⟨_, (pss_one (ps_ostG (pv 0) (pe_cc c_copied hr (by omega) (by rfl) (pa_cons (pv 1) pa_nil)) rfl)), ?_⟩
    refine r_ostG ?_
    walk_at "rd"
    refine ⟨v, d, rfl, hv, hd, fun v' H1 e1 hv1 => ?_⟩
    walk_at "rd"
    have ha1 := e1 _ _ ha
    refine ⟨a, C, fI, rfl, T, hno, .inl ⟨ha1, fun dx hdx ne => ?_⟩⟩
    exact q v' dx _ (fun b o nb eb => by rw [upd_ne nb, upd_ne (ne_of_none (e1 _ _ eb) hdx)]; exact e1 _ _ eb) upd_same (by rw [upd_ne ne, upd_same]) (Dp.updD hd hv1 ⟨C, ha1⟩ hdx)
theorem ok_iNoData {fI C : Addr} {fd : FuncData} {k : Nat} (F : Fun K "__init__" "NoData.__init__" s_NoData___init__ fI fd) (T : ExG K C fI) (hno : PySem.W.findIn K (.ref C) "thing" = some none) (c_copied : CalT P w K mg base 2 "copied" (spCop1 K)) : FnOk P w K mg base CX0 (k + 3) fI fd ["self", "thing"] (spI1 K C "thing") := by
  refine F.ok sc_NoData___init__ (fun vs H Q E h => ?_) (fun cdv A outer s H vs Q E hr h => ?_)
  · obtain ⟨a, v, d, rfl, _⟩ := h
    rfl
  · obtain ⟨a, v, d, rfl, ha, hv, hd, q⟩ := h
    have hu := hu_of hr
    have nd := sc_NoData___init__.nd
    refine ⟨_, (pss_one (ps_ostG (pv 0) (pe_cc c_copied hr (by omega) (by rfl) (pa_cons (pv 1) pa_nil)) rfl)), ?_⟩
    refine r_ostG ?_
    walk_at "rd"
    refine ⟨v, d, rfl, hv, hd, fun v' H1 e1 hv1 => ?_⟩
    walk_at "rd"
    have ha1 := e1 _ _ ha
    refine ⟨a, C, fI, rfl, T, hno, .inl ⟨ha1, fun dx hdx ne => ?_⟩⟩
    exact q v' dx _ (fun b o nb eb => by rw [upd_ne nb, upd_ne (ne_of_none (e1 _ _ eb) hdx)]; exact e1 _ _ eb) upd_same (by rw [upd_ne ne, upd_same]) (Dp.updD hd hv1 ⟨C, ha1⟩ hdx)
theorem ok_iNoName {fI C : Addr} {fd : FuncData} {k : Nat} (F : Fun K "__init__" "NoName.__init__" s_NoName___init__ fI fd) (T : ExG K C fI) (hno : PySem.W.findIn K (.ref C) "name" = some none) (c_copied : CalT P w K mg base 2 "copied" (spCop1 K)) : FnOk P w K mg base CX0 (k + 3) fI fd ["self", "name"] (spI1 K C "name") := by
  refine F.ok sc_NoName___init__ (fun vs H Q E h => ?_) (fun cdv A outer s H vs Q E hr h => ?_)
  · obtain ⟨a, v, d, rfl, _⟩ := h
    rfl
  · obtain ⟨a, v, d, rfl, ha, hv, hd, q⟩ := h
    have hu := hu_of hr
    have nd := sc_NoName___init__.nd
    refine ⟨_, (pss_one (ps_ostG (pv 0) (pe_cc c_copied hr (by omega) (by rfl) (pa_cons (pv 1) pa_nil)) rfl)), ?_⟩
    refine r_ostG ?_
    walk_at "rd"
    refine ⟨v, d, rfl, hv, hd, fun v' H1 e1 hv1 => ?_⟩
    walk_at "rd"
    have ha1 := e1 _ _ ha
    refine ⟨a, C, fI, rfl, T, hno, .inl ⟨ha1, fun dx hdx ne => ?_⟩⟩
    exact q v' dx _ (fun b o nb eb => by rw [upd_ne nb, upd_ne (ne_of_none (e1 _ _ eb) hdx)]; exact e1 _ _ eb) upd_same (by rw [upd_ne ne, upd_same]) (Dp.updD hd hv1 ⟨C, ha1⟩ hdx)
theorem ok_iNoMode {fI C : Addr} {fd : FuncData} {k : Nat} (F : Fun K "__init__" "NoMode.__init__" s_NoMode___init__ fI fd) (T : ExG K C fI) (hno : PySem.W.findIn K (.ref C) "mode" = some none) (c_copied : CalT P w K mg base 2 "copied" (spCop1 K)) : FnOk P w K mg base CX0 (k + 3) fI fd ["self", "mode"] (spI1 K C "mode") := by
  refine F.ok sc_NoMode___init__ (fun vs H Q E h => ?_) (fun cdv A outer s H vs Q E hr h => ?_)
  · obtain ⟨a, v, d, rfl, _⟩ := h
    rfl
  · obtain ⟨a, v, d, rfl, ha, hv, hd, q⟩ := h
    have hu := hu_of hr
    have nd := sc_NoMode___init__.nd
    refine ⟨_, (pss_one (ps_ostG (pv 0) (pe_cc c_copied hr (by omega) (by rfl) (pa_cons (pv 1) pa_nil)) rfl)), ?_⟩
    refine r_ostG ?_
    walk_at "rd"
    refine ⟨v, d, rfl, hv, hd, fun v' H1 e1 hv1 => ?_⟩
    walk_at "rd"
    have ha1 := e1 _ _ ha
    refine ⟨a, C, fI, rfl, T, hno, .inl ⟨ha1, fun dx hdx ne => ?_⟩⟩
    exact q v' dx _ (fun b o nb eb => by rw [upd_ne nb, upd_ne (ne_of_none (e1 _ _ eb) hdx)]; exact e1 _ _ eb) upd_same (by rw [upd_ne ne, upd_same]) (Dp.updD hd hv1 ⟨C, ha1⟩ hdx)
theorem ok_iNoTime {fI C : Addr} {fd : FuncData} {k : Nat} (F : Fun K "__init__" "NoTime.__init__" s_NoTime___init__ fI fd) (T : ExG K C fI) (hno : PySem.W.findIn K (.ref C) "time" = some none) (c_copied : CalT P w K mg base 2 "copied" (spCop1 K)) : FnOk P w K mg base CX0 (k + 3) fI fd ["self", "time"] (spI1 K C "time") := by
  refine F.ok sc_NoTime___init__ (fun vs H Q E h => ?_) (fun cdv A outer s H vs Q E hr h => ?_)
  · obtain ⟨a, v, d, rfl, _⟩ := h
    rfl
  · obtain ⟨a, v, d, rfl, ha, hv, hd, q⟩ := h
    have hu := hu_of hr
    have nd := sc_NoTime___init__.nd
    refine ⟨_, (pss_one (ps_ostG (pv 0) (pe_cc c_copied hr (by omega) (by rfl) (pa_cons (pv 1) pa_nil)) rfl)), ?_⟩
    refine r_ostG ?_
    walk_at "rd"
    refine ⟨v, d, rfl, hv, hd, fun v' H1 e1 hv1 => ?_⟩
    walk_at "rd"
    have ha1 := e1 _ _ ha
    refine ⟨a, C, fI, rfl, T, hno, .inl ⟨ha1, fun dx hdx ne => ?_⟩⟩
    exact q v' dx _ (fun b o nb eb => by rw [upd_ne nb, upd_ne (ne_of_none (e1 _ _ eb) hdx)]; exact e1 _ _ eb) upd_same (by rw [upd_ne ne, upd_same]) (Dp.updD hd hv1 ⟨C, ha1⟩ hdx)
theorem ok_iNoSize {fI C : Addr} {fd : FuncData} {k : Nat} (F : Fun K "__init__" "NoSize.__init__" s_NoSize___init__ fI fd) (T : ExG K C fI) (hno : PySem.W.findIn K (.ref C) "size" = some none) (c_copied : CalT P w K mg base 2 "copied" (spCop1 K)) : FnOk P w K mg base CX0 (k + 3) fI fd ["self", "size"] (spI1 K C "size") := by
  refine F.ok sc_NoSize___init__ (fun vs H Q E h => ?_) (fun cdv A outer s H vs Q E hr h => ?_)
  · obtain ⟨a, v, d, rfl, _⟩ := h
    rfl
  · obtain ⟨a, v, d, rfl, ha, hv, hd, q⟩ := h
    have hu := hu_of hr
    have nd := sc_NoSize___init__.nd
    refine ⟨_, (pss_one (ps_ostG (pv 0) (pe_cc c_copied hr (by omega) (by rfl) (pa_cons (pv 1) pa_nil)) rfl)), ?_⟩
    refine r_ostG ?_
    walk_at "rd"
    refine ⟨v, d, rfl, hv, hd, fun v' H1 e1 hv1 => ?_⟩
    walk_at "rd"
    have ha1 := e1 _ _ ha
    refine ⟨a, C, fI, rfl, T, hno, .inl ⟨ha1, fun dx hdx ne => ?_⟩⟩
    exact q v' dx _ (fun b o nb eb => by rw [upd_ne nb, upd_ne (ne_of_none (e1 _ _ eb) hdx)]; exact e1 _ _ eb) upd_same (by rw [upd_ne ne, upd_same]) (Dp.updD hd hv1 ⟨C, ha1⟩ hdx)
theorem ok_iNoPieces {fI C : Addr} {fd : FuncData} {k : Nat} (F : Fun K "__init__" "NoPieces.__init__" s_NoPieces___init__ fI fd) (T : ExG K C fI) (hno : PySem.W.findIn K (.ref C) "pieces" = some none) (c_copied : CalT P w K mg base 2 "copied" (spCop1 K)) : FnOk P w K mg base CX0 (k + 3) fI fd ["self", "pieces"] (spI1 K C "pieces") := by
  refine F.ok sc_NoPieces___init__ (fun vs H Q E h => ?_) (fun cdv A outer s H vs Q E hr h => ?_)
  · obtain ⟨a, v, d, rfl, _⟩ := h
    rfl
  · obtain ⟨a, v, d, rfl, ha, hv, hd, q⟩ := h
    have hu := hu_of hr
    have nd := sc_NoPieces___init__.nd
    refine ⟨_, (pss_one (ps_ostG (pv 0) (pe_cc c_copied hr (by omega) (by rfl) (pa_cons (pv 1) pa_nil)) rfl)), ?_⟩
    refine r_ostG ?_
    walk_at "rd"
    refine ⟨v, d, rfl, hv, hd, fun v' H1 e1 hv1 => ?_⟩
    walk_at "rd"
    have ha1 := e1 _ _ ha
    refine ⟨a, C, fI, rfl, T, hno, .inl ⟨ha1, fun dx hdx ne => ?_⟩⟩
    exact q v' dx _ (fun b o nb eb => by rw [upd_ne nb, upd_ne (ne_of_none (e1 _ _ eb) hdx)]; exact e1 _ _ eb) upd_same (by rw [upd_ne ne, upd_same]) (Dp.updD hd hv1 ⟨C, ha1⟩ hdx)
theorem ok_iNoBlock {fI C : Addr} {fd : FuncData} {k : Nat} (F : Fun K "__init__" "NoBlock.__init__" s_NoBlock___init__ fI fd) (T : ExG K C fI) (hno : PySem.W.findIn K (.ref C) "thing" = some none) (c_copied : CalT P w K mg base 2 "copied" (spCop1 K)) : FnOk P w K mg base CX0 (k + 3) fI fd ["self", "thing"] (spI1 K C "thing") := by
  refine F.ok sc_NoBlock___init__ (fun vs H Q E h => ?_) (fun cdv A outer s H vs Q E hr h => ?_)
  · obtain ⟨a, v, d, rfl, _⟩ := h
    rfl
  · obtain ⟨a, v, d, rfl, ha, hv, hd, q⟩ := h
    have hu := hu_of hr
    have nd := sc_NoBlock___init__.nd
    refine ⟨_, (pss_one (ps_ostG (pv 0) (pe_cc c_copied hr (by omega) (by rfl) (pa_cons (pv 1) pa_nil)) rfl)), ?_⟩
    refine r_ostG ?_
    walk_at "rd"
    refine ⟨v, d, rfl, hv, hd, fun v' H1 e1 hv1 => ?_⟩
    walk_at "rd"
    have ha1 := e1 _ _ ha
    refine ⟨a, C, fI, rfl, T, hno, .inl ⟨ha1, fun dx hdx ne => ?_⟩⟩
    exact q v' dx _ (fun b o nb eb => by rw [upd_ne nb, upd_ne (ne_of_none (e1 _ _ eb) hdx)]; exact e1 _ _ eb) upd_same (by rw [upd_ne ne, upd_same]) (Dp.updD hd hv1 ⟨C, ha1⟩ hdx)
theorem ok_iNoMember {fI C : Addr} {fd : FuncData} {k : Nat} (F : Fun K "__init__" "NoMember.__init__" s_NoMember___init__ fI fd) (T : ExG K C fI) (hno : PySem.W.findIn K (.ref C) "thing" = some none) (c_copied : CalT P w K mg base 2 "copied" (spCop1 K)) : FnOk P w K mg base CX0 (k + 3) fI fd ["self", "thing"] (spI1 K C "thing") := by
  refine F.ok sc_NoMember___init__ (fun vs H Q E h => ?_) (fun cdv A outer s H vs Q E hr h => ?_)
  · obtain ⟨a, v, d, rfl, _⟩ := h
    rfl
  · obtain ⟨a, v, d, rfl, ha, hv, hd, q⟩ := h
    have hu := hu_of hr
    have nd := sc_NoMember___init__.nd
    refine ⟨_, (pss_one (ps_ostG (pv 0) (pe_cc c_copied hr (by omega) (by rfl) (pa_cons (pv 1) pa_nil)) rfl)), ?_⟩
    refine r_ostG ?_
    walk_at "rd"
    refine ⟨v, d, rfl, hv, hd, fun v' H1 e1 hv1 => ?_⟩
    walk_at "rd"
    have ha1 := e1 _ _ ha
    refine ⟨a, C, fI, rfl, T, hno, .inl ⟨ha1, fun dx hdx ne => ?_⟩⟩
    exact q v' dx _ (fun b o nb eb => by rw [upd_ne nb, upd_ne (ne_of_none (e1 _ _ eb) hdx)]; exact e1 _ _ eb) upd_same (by rw [upd_ne ne, upd_same]) (Dp.updD hd hv1 ⟨C, ha1⟩ hdx)
theorem ok_iTooMany {fI C : Addr} {fd : FuncData} {k : Nat} (F : Fun K "__init__" "TooMany.__init__" s_TooMany___init__ fI fd) (T : ExG K C fI) (hno : PySem.W.findIn K (.ref C) "limit" = some none) (c_copied : CalT P w K mg base 2 "copied" (spCop1 K)) : FnOk P w K mg base CX0 (k + 3) fI fd ["self", "limit"] (spI1 K C "limit") := by
  refine F.ok sc_TooMany___init__ (fun vs H Q E h => ?_) (fun cdv A outer s H vs Q E hr h => ?_)
  · obtain ⟨a, v, d, rfl, _⟩ := h
    rfl
  · obtain ⟨a, v, d, rfl, ha, hv, hd, q⟩ := h
    have hu := hu_of hr
    have nd := sc_TooMany___init__.nd
    refine ⟨_, (pss_one (ps_ostG (pv 0) (pe_cc c_copied hr (by omega) (by rfl) (pa_cons (pv 1) pa_nil)) rfl)), ?_⟩
    refine r_ostG ?_
    walk_at "rd"
    refine ⟨v, d, rfl, hv, hd, fun v' H1 e1 hv1 => ?_⟩
    walk_at "rd"
    have ha1 := e1 _ _ ha
    refine ⟨a, C, fI, rfl, T, hno, .inl ⟨ha1, fun dx hdx ne => ?_⟩⟩
    exact q v' dx _ (fun b o nb eb => by rw [upd_ne nb, upd_ne (ne_of_none (e1 _ _ eb) hdx)]; exact e1 _ _ eb) upd_same (by rw [upd_ne ne, upd_same]) (Dp.updD hd hv1 ⟨C, ha1⟩ hdx)
theorem ok_iNoOffset {fI C : Addr} {fd : FuncData} {k : Nat} (F : Fun K "__init__" "NoOffset.__init__" s_NoOffset___init__ fI fd) (T : ExG K C fI) (hno : PySem.W.findIn K (.ref C) "offset" = some none) (c_copied : CalT P w K mg base 2 "copied" (spCop1 K)) : FnOk P w K mg base CX0 (k + 3) fI fd ["self", "offset"] (spI1 K C "offset") := by
  refine F.ok sc_NoOffset___init__ (fun vs H Q E h => ?_) (fun cdv A outer s H vs Q E hr h => ?_)
  · obtain ⟨a, v, d, rfl, _⟩ := h
    rfl
  · obtain ⟨a, v, d, rfl, ha, hv, hd, q⟩ := h
    have hu := hu_of hr
    have nd := sc_NoOffset___init__.nd
    refine ⟨_, (pss_one (ps_ostG (pv 0) (pe_cc c_copied hr (by omega) (by rfl) (pa_cons (pv 1) pa_nil)) rfl)), ?_⟩
    refine r_ostG ?_
    walk_at "rd"
    refine ⟨v, d, rfl, hv, hd, fun v' H1 e1 hv1 => ?_⟩
    walk_at "rd"
    have ha1 := e1 _ _ ha
    refine ⟨a, C, fI, rfl, T, hno, .inl ⟨ha1, fun dx hdx ne => ?_⟩⟩
    exact q v' dx _ (fun b o nb eb => by rw [upd_ne nb, upd_ne (ne_of_none (e1 _ _ eb) hdx)]; exact e1 _ _ eb) upd_same (by rw [upd_ne ne, upd_same]) (Dp.updD hd hv1 ⟨C, ha1⟩ hdx)
theorem ok_iTorn {fI C : Addr} {fd : FuncData} {k : Nat} (F : Fun K "__init__" "Torn.__init__" s_Torn___init__ fI fd) (T : ExG K C fI) (hno : PySem.W.findIn K (.ref C) "offset" = some none) (c_copied : CalT P w K mg base 2 "copied" (spCop1 K)) : FnOk P w K mg base CX0 (k + 3) fI fd ["self", "offset"] (spI1 K C "offset") := by
  refine F.ok sc_Torn___init__ (fun vs H Q E h => ?_) (fun cdv A outer s H vs Q E hr h => ?_)
  · obtain ⟨a, v, d, rfl, _⟩ := h
    rfl
  · obtain ⟨a, v, d, rfl, ha, hv, hd, q⟩ := h
    have hu := hu_of hr
    have nd := sc_Torn___init__.nd
    refine ⟨_, (pss_one (ps_ostG (pv 0) (pe_cc c_copied hr (by omega) (by rfl) (pa_cons (pv 1) pa_nil)) rfl)), ?_⟩
    refine r_ostG ?_
    walk_at "rd"
    refine ⟨v, d, rfl, hv, hd, fun v' H1 e1 hv1 => ?_⟩
    walk_at "rd"
    have ha1 := e1 _ _ ha
    refine ⟨a, C, fI, rfl, T, hno, .inl ⟨ha1, fun dx hdx ne => ?_⟩⟩
    exact q v' dx _ (fun b o nb eb => by rw [upd_ne nb, upd_ne (ne_of_none (e1 _ _ eb) hdx)]; exact e1 _ _ eb) upd_same (by rw [upd_ne ne, upd_same]) (Dp.updD hd hv1 ⟨C, ha1⟩ hdx)
theorem ok_iNoHouse {fI C : Addr} {fd : FuncData} {k : Nat} (F : Fun K "__init__" "NoHouse.__init__" s_NoHouse___init__ fI fd) (T : ExG K C fI) (hno : PySem.W.findIn K (.ref C) "given" = some none) (c_copied : CalT P w K mg base 2 "copied" (spCop1 K)) : FnOk P w K mg base CX0 (k + 3) fI fd ["self", "given"] (spI1 K C "given") := by
  refine F.ok sc_NoHouse___init__ (fun vs H Q E h => ?_) (fun cdv A outer s H vs Q E hr h => ?_)
  · obtain ⟨a, v, d, rfl, _⟩ := h
    rfl
  · obtain ⟨a, v, d, rfl, ha, hv, hd, q⟩ := h
    have hu := hu_of hr
    have nd := sc_NoHouse___init__.nd
    refine ⟨_, (pss_one (ps_ostG (pv 0) (pe_cc c_copied hr (by omega) (by rfl) (pa_cons (pv 1) pa_nil)) rfl)), ?_⟩
    refine r_ostG ?_
    walk_at "rd"
    refine ⟨v, d, rfl, hv, hd, fun v' H1 e1 hv1 => ?_⟩
    walk_at "rd"
    have ha1 := e1 _ _ ha
    refine ⟨a, C, fI, rfl, T, hno, .inl ⟨ha1, fun dx hdx ne => ?_⟩⟩
    exact q v' dx _ (fun b o nb eb => by rw [upd_ne nb, upd_ne (ne_of_none (e1 _ _ eb) hdx)]; exact e1 _ _ eb) upd_same (by rw [upd_ne ne, upd_same]) (Dp.updD hd hv1 ⟨C, ha1⟩ hdx)
theorem ok_iNoPath {fI C : Addr} {fd : FuncData} {k : Nat} (F : Fun K "__init__" "NoPath.__init__" s_NoPath___init__ fI fd) (T : ExG K C fI) (hno : PySem.W.findIn K (.ref C) "path" = some none) (c_copied : CalT P w K mg base 2 "copied" (spCop1 K)) : FnOk P w K mg base CX0 (k + 3) fI fd ["self", "path"] (spI1 K C "path") := by
  refine F.ok sc_NoPath___init__ (fun vs H Q E h => ?_) (fun cdv A outer s H vs Q E hr h => ?_)
  · obtain ⟨a, v, d, rfl, _⟩ := h
    rfl
  · obtain ⟨a, v, d, rfl, ha, hv, hd, q⟩ := h
    have hu := hu_of hr
    have nd := sc_NoPath___init__.nd
    refine ⟨_, (pss_one (ps_ostG (pv 0) (pe_cc c_copied hr (by omega) (by rfl) (pa_cons (pv 1) pa_nil)) rfl)), ?_⟩
    refine r_ostG ?_
    walk_at "rd"
    refine ⟨v, d, rfl, hv, hd, fun v' H1 e1 hv1 => ?_⟩
    walk_at "rd"
    have ha1 := e1 _ _ ha
    refine ⟨a, C, fI, rfl, T, hno, .inl ⟨ha1, fun dx hdx ne => ?_⟩⟩
    exact q v' dx _ (fun b o nb eb => by rw [upd_ne nb, upd_ne (ne_of_none (e1 _ _ eb) hdx)]; exact e1 _ _ eb) upd_same (by rw [upd_ne ne, upd_same]) (Dp.updD hd hv1 ⟨C, ha1⟩ hdx)
theorem ok_iNoIndex {fI C : Addr} {fd : FuncData} {k : Nat} (F : Fun K "__init__" "NoIndex.__init__" s_NoIndex___init__ fI fd) (T : ExG K C fI) (hno : PySem.W.findIn K (.ref C) "index" = some none) (c_copied : CalT P w K mg base 2 "copied" (spCop1 K)) : FnOk P w K mg base CX0 (k + 3) fI fd ["self", "index"] (spI1 K C "index") := by
  refine F.ok sc_NoIndex___init__ (fun vs H Q E h => ?_) (fun cdv A outer s H vs Q E hr h => ?_)
  · obtain ⟨a, v, d, rfl, _⟩ := h
    rfl
  · obtain ⟨a, v, d, rfl, ha, hv, hd, q⟩ := h
    have hu := hu_of hr
    have nd := sc_NoIndex___init__.nd
    refine ⟨_, (pss_one (ps_ostG (pv 0) (pe_cc c_copied hr (by omega) (by rfl) (pa_cons (pv 1) pa_nil)) rfl)), ?_⟩
    refine r_ostG ?_
    walk_at "rd"
    refine ⟨v, d, rfl, hv, hd, fun v' H1 e1 hv1 => ?_⟩
    walk_at "rd"
    have ha1 := e1 _ _ ha
    refine ⟨a, C, fI, rfl, T, hno, .inl ⟨ha1, fun dx hdx ne => ?_⟩⟩
    exact q v' dx _ (fun b o nb eb => by rw [upd_ne nb, upd_ne (ne_of_none (e1 _ _ eb) hdx)]; exact e1 _ _ eb) upd_same (by rw [upd_ne ne, upd_same]) (Dp.updD hd hv1 ⟨C, ha1⟩ hdx)
theorem ok_iNoText {fI C : Addr} {fd : FuncData} {k : Nat} (F : Fun K "__init__" "NoText.__init__" s_NoText___init__ fI fd) (T : ExG K C fI) (hno : PySem.W.findIn K (.ref C) "text" = some none) (c_copied : CalT P w K mg base 2 "copied" (spCop1 K)) : FnOk P w K mg base CX0 (k + 3) fI fd ["self", "text"] (spI1 K C "text") := by
  refine F.ok sc_NoText___init__ (fun vs H Q E h => ?_) (fun cdv A outer s H vs Q E hr h => ?_)
  · obtain ⟨a, v, d, rfl, _⟩ := h
    rfl
  · obtain ⟨a, v, d, rfl, ha, hv, hd, q⟩ := h
    have hu := hu_of hr
    have nd := sc_NoText___init__.nd
    refine ⟨_, (pss_one (ps_ostG (pv 0) (pe_cc c_copied hr (by omega) (by rfl) (pa_cons (pv 1) pa_nil)) rfl)), ?_⟩
    refine r_ostG ?_
    walk_at "rd"
    refine ⟨v, d, rfl, hv, hd, fun v' H1 e1 hv1 => ?_⟩
    walk_at "rd"
    have ha1 := e1 _ _ ha
    refine ⟨a, C, fI, rfl, T, hno, .inl ⟨ha1, fun dx hdx ne => ?_⟩⟩
    exact q v' dx _ (fun b o nb eb => by rw [upd_ne nb, upd_ne (ne_of_none (e1 _ _ eb) hdx)]; exact e1 _ _ eb) upd_same (by rw [upd_ne ne, upd_same]) (Dp.updD hd hv1 ⟨C, ha1⟩ hdx)
theorem ok_iNoCommand {fI C : Addr} {fd : FuncData} {k : Nat} (F : Fun K "__init__" "NoCommand.__init__" s_NoCommand___init__ fI fd) (T : ExG K C fI) (hno : PySem.W.findIn K (.ref C) "command" = some none) (c_copied : CalT P w K mg base 2 "copied" (spCop1 K)) : FnOk P w K mg base CX0 (k + 3) fI fd ["self", "command"] (spI1 K C "command") := by
  refine F.ok sc_NoCommand___init__ (fun vs H Q E h => ?_) (fun cdv A outer s H vs Q E hr h => ?_)
  · obtain ⟨a, v, d, rfl, _⟩ := h
    rfl
  · obtain ⟨a, v, d, rfl, ha, hv, hd, q⟩ := h
    have hu := hu_of hr
    have nd := sc_NoCommand___init__.nd
    refine ⟨_, (pss_one (ps_ostG (pv 0) (pe_cc c_copied hr (by omega) (by rfl) (pa_cons (pv 1) pa_nil)) rfl)), ?_⟩
    refine r_ostG ?_
    walk_at "rd"
    refine ⟨v, d, rfl, hv, hd, fun v' H1 e1 hv1 => ?_⟩
    walk_at "rd"
    have ha1 := e1 _ _ ha
    refine ⟨a, C, fI, rfl, T, hno, .inl ⟨ha1, fun dx hdx ne => ?_⟩⟩
    exact q v' dx _ (fun b o nb eb => by rw [upd_ne nb, upd_ne (ne_of_none (e1 _ _ eb) hdx)]; exact e1 _ _ eb) upd_same (by rw [upd_ne ne, upd_same]) (Dp.updD hd hv1 ⟨C, ha1⟩ hdx)
theorem ok_iWrong {fI C : Addr} {fd : FuncData} {k : Nat} (F : Fun K "__init__" "Wrong.__init__" s_Wrong___init__ fI fd) (T : ExG K C fI) (hno : PySem.W.findIn K (.ref C) "offset" = some none) (hno2 : PySem.W.findIn K (.ref C) "field" = some none) (c_copied : CalT P w K mg base 2 "copied" (spCop1 K)) : FnOk P w K mg base CX0 (k + 3) fI fd ["self", "offset", "field"] (spI2 K C "offset" "field") := by
  refine F.ok sc_Wrong___init__ (fun vs H Q E h => ?_) (fun cdv A outer s H vs Q E hr h => ?_)
  · obtain ⟨a, v, o, d, d', rfl, _⟩ := h
    rfl
  · obtain ⟨a, v, o, d, d', rfl, ha, hv, hd, hw, hd', q⟩ := h
    have hu := hu_of hr
    have nd := sc_Wrong___init__.nd
    refine ⟨_, (pss_cons (ps_ostG (pv 0) (pe_cc c_copied hr (by omega) (by rfl) (pa_cons (pv 1) pa_nil)) rfl)
      (pss_one (ps_ostG (pv 0) (pe_cc c_copied hr (by omega) (by rfl) (pa_cons (pv 2) pa_nil)) rfl))), ?_⟩
    refine r_seq ?_
    refine r_ostG ?_
    walk_at "rd"
    refine ⟨v, d, rfl, hv, hd, fun v' H1 e1 hv1 => ?_⟩
    walk_at "rd"
    have ha1 := e1 _ _ ha
    refine ⟨a, C, fI, rfl, T, hno, .inl ⟨ha1, fun dx hdx ne => ?_⟩⟩
    have fr : ∀ b u, b ≠ a → H b = some u → (upd (upd H1 dx (exd dx [("offset", v')])) a (exo a C (some dx))) b = some u := fun b u nb eb => by rw [upd_ne nb, upd_ne (ne_of_none (e1 _ _ eb) hdx)]; exact e1 _ _ eb
    have ga : (upd (upd H1 dx (exd dx [("offset", v')])) a (exo a C (some dx))) a = some (exo a C (some dx)) := upd_same
    have gd : (upd (upd H1 dx (exd dx [("offset", v')])) a (exo a C (some dx))) dx = some (exd dx [("offset", v')]) := by rw [upd_ne ne, upd_same]
    have hv2 := Dp.updD (u := exd dx [("offset", v')]) (w := exo a C (some dx)) hd hv1 ⟨C, ha1⟩ hdx
    have hw2 := Dp.updD (u := exd dx [("offset", v')]) (w := exo a C (some dx)) hd' (Dp.sameD e1 hd' hw) ⟨C, ha1⟩ hdx
    have hdH : H dx = none := Same.free e1 hdx
    generalize (upd (upd H1 dx (exd dx [("offset", v')])) a (exo a C (some dx))) = H2 at *
    dsimp only
    refine r_ostG ?_
    walk_at "rd"
    refine ⟨o, d', rfl, hw2, hd', fun o' H3 e3 hw3 => ?_⟩
    walk_at "rd"
    have gd3 := e3 _ _ gd
    refine ⟨a, C, fI, rfl, T, hno2, .inr ⟨dx, _, e3 _ _ ga, gd3, by simp, ?_⟩⟩
    exact q v' o' dx _ (fun b u nb eb => by rw [upd_ne (ne_of_none eb hdH)]; exact e3 _ _ (fr b u nb eb)) (by rw [upd_ne ne.symm]; exact e3 _ _ ga) upd_same (Dp.updX hd (Dp.sameD e3 hd hv2) gd3) (Dp.updX hd' hw3 gd3)
theorem ok_iRefused {fI C : Addr} {fd : FuncData} {k : Nat} (F : Fun K "__init__" "Refused.__init__" s_Refused___init__ fI fd) (T : ExG K C fI) (hno : PySem.W.findIn K (.ref C) "index" = some none) (hno2 : PySem.W.findIn K (.ref C) "word" = some none) (c_copied : CalT P w K mg base 2 "copied" (spCop1 K)) : FnOk P w K mg base CX0 (k + 3) fI fd ["self", "index", "word"] (spI2 K C "index" "word") := by
  refine F.ok sc_Refused___init__ (fun vs H Q E h => ?_) (fun cdv A outer s H vs Q E hr h => ?_)
  · obtain ⟨a, v, o, d, d', rfl, _⟩ := h
    rfl
  · obtain ⟨a, v, o, d, d', rfl, ha, hv, hd, hw, hd', q⟩ := h
    have hu := hu_of hr
    have nd := sc_Refused___init__.nd
    refine ⟨_, (pss_cons (ps_ostG (pv 0) (pe_cc c_copied hr (by omega) (by rfl) (pa_cons (pv 1) pa_nil)) rfl)
      (pss_one (ps_ostG (pv 0) (pe_cc c_copied hr (by omega) (by rfl) (pa_cons (pv 2) pa_nil)) rfl))), ?_⟩
    refine r_seq ?_
    refine r_ostG ?_
    walk_at "rd"
    refine ⟨v, d, rfl, hv, hd, fun v' H1 e1 hv1 => ?_⟩
    walk_at "rd"
    have ha1 := e1 _ _ ha
    refine ⟨a, C, fI, rfl, T, hno, .inl ⟨ha1, fun dx hdx ne => ?_⟩⟩
    have fr : ∀ b u, b ≠ a → H b = some u → (upd (upd H1 dx (exd dx [("index", v')])) a (exo a C (some dx))) b = some u := fun b u nb eb => by rw [upd_ne nb, upd_ne (ne_of_none (e1 _ _ eb) hdx)]; exact e1 _ _ eb
    have ga : (upd (upd H1 dx (exd dx [("index", v')])) a (exo a C (some dx))) a = some (exo a C (some dx)) := upd_same
    have gd : (upd (upd H1 dx (exd dx [("index", v')])) a (exo a C (some dx))) dx = some (exd dx [("index", v')]) := by rw [upd_ne ne, upd_same]
    have hv2 := Dp.updD (u := exd dx [("index", v')]) (w := exo a C (some dx)) hd hv1 ⟨C, ha1⟩ hdx
    have hw2 := Dp.updD (u := exd dx [("index", v')]) (w := exo a C (some dx)) hd' (Dp.sameD e1 hd' hw) ⟨C, ha1⟩ hdx
    have hdH : H dx = none := Same.free e1 hdx
    generalize (upd (upd H1 dx (exd dx [("index", v')])) a (exo a C (some dx))) = H2 at *
    dsimp only
    refine r_ostG ?_
    walk_at "rd"
    refine ⟨o, d', rfl, hw2, hd', fun o' H3 e3 hw3 => ?_⟩
    walk_at "rd"
    have gd3 := e3 _ _ gd
    refine ⟨a, C, fI, rfl, T, hno2, .inr ⟨dx, _, e3 _ _ ga, gd3, by simp, ?_⟩⟩
    exact q v' o' dx _ (fun b u nb eb => by rw [upd_ne (ne_of_none eb hdH)]; exact e3 _ _ (fr b u nb eb)) (by rw [upd_ne ne.symm]; exact e3 _ _ ga) upd_same (Dp.updX hd (Dp.sameD e3 hd hv2) gd3) (Dp.updX hd' hw3 gd3)
theorem ok_iClosed {fI C : Addr} {fd : FuncData} {k : Nat} (F : Fun K "__init__" "Closed.__init__" s_Closed___init__ fI fd) : FnOk P w K mg base CX0 (k + 1) fI fd ["self"] (spI0 C) := by
  refine F.ok sc_Closed___init__ (fun vs H Q E h => ?_) (fun cdv A outer s H vs Q E hr h => ?_)
  · obtain ⟨a, rfl, _⟩ := h
    rfl
  · obtain ⟨a, rfl, ha, q⟩ := h
    have hu := hu_of hr
    have nd := sc_Closed___init__.nd
    refine ⟨_, (pss_one ps_pass), ?_⟩
    walk_at "rd"
    exact q
theorem ok_iNoEdit {fI C : Addr} {fd : FuncData} {k : Nat} (F : Fun K "__init__" "NoEdit.__init__" s_NoEdit___init__ fI fd) : FnOk P w K mg base CX0 (k + 1) fI fd ["self"] (spI0 C) := by
  refine F.ok sc_NoEdit___init__ (fun vs H Q E h => ?_) (fun cdv A outer s H vs Q E hr h => ?_)
  · obtain ⟨a, rfl, _⟩ := h
    rfl
  · obtain ⟨a, rfl, ha, q⟩ := h
    have hu := hu_of hr
    have nd := sc_NoEdit___init__.nd
    refine ⟨_, (pss_one ps_pass), ?_⟩
    walk_at "rd"
    exact q
end
end Th
namespace Th
open PySem PySem.Spec PyProof.Rows L2
local macro_rules | `(tactic| walk_at "lk") => `(tactic| first
  | assumption
  | exact upd_same
  | (refine upd_old (by assumption) ?_; walk_at "lk")
  | (refine upd_diff (by assumption) ?_; walk_at "lk")
  | (refine upd_diff (Ne.symm (by assumption)) ?_; walk_at "lk"))
local macro_rules | `(tactic| walk_at "cnd") => `(tactic| first
  | omega
  | (refine ⟨by omega, by omega⟩)
  | (refine ⟨by omega, by omega, by omega⟩)
  | (refine .inl ⟨by omega, by omega⟩)
  | (refine .inr ⟨by omega, by omega⟩)
  | (exact (show CPow _ _ from ⟨by decide, by decide, by omega⟩))
  | decide +kernel
  | (unfold CMulW; decide +kernel)
  | (exact wide_div (b := 64) (by omega) (by omega) (by decide) (by decide)))
local macro_rules | `(tactic| walk_at "rd1") => `(tactic| first
  | (with_reducible refine r_seq ?_)
  | (with_reducible refine r_asg ?_)
  | (with_reducible refine r_ret ?_)
  | (with_reducible refine r_if ?_)
  | (with_reducible refine r_gname ?_)
  | ((with_reducible refine' r_var ?hv ?_); (case hv => exact rfl))
  | (with_reducible refine r_c ?_)
  | (with_reducible refine r_op ?_)
  | (with_reducible refine r_I0 ?_)
  | ((with_reducible refine r_I ?hc ?_); (case hc => walk_at "cnd"))
  | (with_reducible refine r_test ?_)
  | (with_reducible refine r_tB ?_)
  | (with_reducible refine r_bl ?_)
  | (with_reducible refine r_not ?_)
  | (with_reducible refine r_and ?_)
  | (with_reducible refine r_or ?_)
  | (with_reducible refine r_ifE ?_)
  | (with_reducible refine r_notV ?_)
  | (with_reducible refine r_andV ?_)
  | (with_reducible refine r_orV ?_)
  | (with_reducible refine r_chain ?_)
  | (with_reducible refine r_cb ?_)
  | (with_reducible refine r_call ?_)
  | (with_reducible refine r_callN ?_)
  | (with_reducible refine r_nil ?_)
  | (with_reducible refine r_cons ?_)
  | ((with_reducible refine r_lst ?_))
  | ((with_reducible refine r_tup ?_))
  | ((with_reducible refine r_new ?_ ?_); (exact Nat.le_of_ble_eq_true rfl); (intro p hp))
  | (with_reducible refine r_rInt1 ?_)
  | (with_reducible refine r_rIntB ?_)
  | (with_reducible refine r_rAbs ?_)
  | (with_reducible refine r_rMin2 ?_)
  | (with_reducible refine r_rMax2 ?_)
  | ((with_reducible refine r_rLenZ ?hz ?_); (case hz => first | assumption | exact Nat.le_of_ble_eq_true rfl | (refine Nat.le_trans ?_ (by decide : 100000 ≤ sizeLine); omega)))
  | ((with_reducible refine r_addZ ?hz ?_); (case hz => (refine Nat.le_trans ?_ (by decide : 100000 ≤ sizeLine); first | omega | (simp only [Str.length] at *; simp; omega))))
  | ((with_reducible refine r_mulZ ?hz ?h0 ?h1 ?_); (case hz => first | omega | exact Nat.le_of_ble_eq_true rfl); (case h0 => omega); (case h1 => omega))
  | ((with_reducible refine' r_rLenQ ?h1 ?_); (case h1 => first | (exact .inl (by assumption)) | (exact .inr (by assumption)) | (exact .inl (SqL.of (by walk_at "lk"))) | (exact .inr (SqT.of (by walk_at "lk")))))
  | ((with_reducible refine r_eq ?hs ?_); (case hs => exact rfl))
  | ((with_reducible refine r_ne ?hs ?_); (case hs => exact rfl))
  | (with_reducible refine r_inC ?_)
  | ((with_reducible refine' r_cat ?h1 ?h2 ?h3 ?_); (case h1 => walk_at "lk"); (case h2 => walk_at "lk"); (case h3 => exact Nat.le_of_ble_eq_true rfl); (intro p hp))
  | ((with_reducible refine' r_rep ?h1 ?h2 ?h3 ?h4 ?_); (case h1 => walk_at "lk"); (case h2 => omega); (case h3 => omega); (case h4 => exact Nat.le_of_ble_eq_true rfl); (intro p hp))
  | ((with_reducible refine' r_append ?h1 ?h2 ?_); (case h1 => walk_at "lk"); (case h2 => first | exact (show _ + 1 ≤ sizeLine from Nat.le_of_ble_eq_true rfl) | exact Nat.lt_of_le_of_lt (by omega : _ ≤ 100000) (by decide)))
  | (with_reducible refine r_bm ?_)
  | ((with_reducible refine' r_tyL ?h1 ?_); (case h1 => walk_at "lk"))
  | ((with_reducible refine' r_ixL ?h1 ?h2 ?_); (case h1 => first | assumption | exact SqL.of (by walk_at "lk")); (case h2 => exact rfl))
  | ((with_reducible refine' r_ixT ?h1 ?h2 ?_); (case h1 => first | assumption | exact SqT.of (by walk_at "lk")); (case h2 => exact rfl))
  | (with_reducible refine r_gsub ?_)
  | ((with_reducible refine' r_setL ?h1 ?h2 ?_); (case h1 => walk_at "lk"); (case h2 => exact rfl))
  | (with_reducible refine r_un ?_)
  | (with_reducible refine r_neg ?_)
  | (with_reducible refine r_iteT ?_)
  | (with_reducible refine r_iteNT ?_)
  | (with_reducible refine r_iteNF ?_)
  | (with_reducible refine r_iteF ?_)
  | (with_reducible refine r_next ?_)
  | (with_reducible refine r_drop ?_)
  | (with_reducible refine r_cont ?_)
  | (with_reducible refine r_brk ?_))
local macro_rules | `(tactic| walk_at "ty") => `(tactic| first
  | assumption
  | exact .base (.int _)
  | exact .base (.str _)
  | exact .base (.bl _)
  | exact .base .non
  | exact .byt _
  | exact .base (.lst (by walk_at "lk"))
  | exact .base (.tup (by walk_at "lk")))
local macro_rules | `(tactic| walk_at "rd2") => `(tactic| first
  | walk_at "rd1"
  | ((with_reducible refine' r_isi true ?ht ?hk ?_); (case ht => walk_at "ty"); (case hk => first | assumption | decide +kernel))
  | ((with_reducible refine' r_isi false ?ht ?hk ?_); (case ht => walk_at "ty"); (case hk => first | assumption | decide +kernel))
  | ((with_reducible refine' r_isiT2 true true ?hT ?ht ?hk ?hk2 ?_); (case hT => walk_at "lk"); (case ht => walk_at "ty"); (case hk => decide +kernel); (case hk2 => decide +kernel))
  | ((with_reducible refine' r_isiT2 true false ?hT ?ht ?hk ?hk2 ?_); (case hT => walk_at "lk"); (case ht => walk_at "ty"); (case hk => decide +kernel); (case hk2 => decide +kernel))
  | ((with_reducible refine' r_isiT2 false true ?hT ?ht ?hk ?hk2 ?_); (case hT => walk_at "lk"); (case ht => walk_at "ty"); (case hk => decide +kernel); (case hk2 => decide +kernel))
  | ((with_reducible refine' r_isiT2 false false ?hT ?ht ?hk ?hk2 ?_); (case hT => walk_at "lk"); (case ht => walk_at "ty"); (case hk => decide +kernel); (case hk2 => decide +kernel))
  | (with_reducible refine r_iteNT ?_)
  | ((show (if (!true) = true then _ else _)); refine r_iteNT ?_)
  | (with_reducible refine r_r1 ?_)
  | (with_reducible refine r_maks ?_)
  | (with_reducible refine r_sfld ?_)
  | ((with_reducible refine' r_sfldE ?h1 ?h2 ?h3 ?h4 ?_); (case h1 => walk_at "lk"); (case h2 => assumption); (case h3 => assumption); (case h4 => exact (show _ + 1 ≤ 1000 from Nat.le_of_ble_eq_true rfl)))
  | (with_reducible refine r_fld ?_)
  | (with_reducible refine r_join ?_)
  | (with_reducible refine r_jcons ?_)
  | (with_reducible refine r_jnil ?_)
  | ((with_reducible refine r_rLenY ?hz ?_); (case hz => first | assumption | (refine Nat.le_trans ?_ (by decide : 100000 ≤ sizeLine); omega)))
  | (with_reducible refine r_par ?_)
  | (with_reducible refine r_pair ?_)
  | (with_reducible refine r_par3 ?_)
  | (with_reducible refine r_trip ?_)
  | ((with_reducible refine' r_gtup ?h1 ?h2 ?_); (case h1 => first | assumption | exact SqT.of (by walk_at "lk")); (case h2 => exact rfl))
  | (with_reducible refine r_gcons ?_)
  | (with_reducible refine r_gnil ?_)
  | ((with_reducible refine' r_slL ?h1 ?_); (case h1 => first | assumption | exact SqL.of (by walk_at "lk")); (intro p hp))
  | (with_reducible refine r_iTup ?_)
  | ((with_reducible refine' r_tupE ?h1 ?_); (case h1 => first | assumption | exact SqT.of (by walk_at "lk")))
  | (with_reducible refine r_m1 ?_)
  | (with_reducible refine r_isZ ?_)
  | (with_reducible refine r_sl ?_)
  | (with_reducible refine r_noPart ?_)
  | (with_reducible refine r_part ?_)
  | (with_reducible refine r_partE ?_)
  | ((with_reducible refine r_slS ?hz ?_); (case hz => first | assumption | (refine Nat.le_trans ?_ (by decide : 100000 ≤ sizeLine); omega)))
  | ((with_reducible refine' r_inT ?h1 ?h2 ?h3 ?_); (case h1 => first | assumption | (exact SqT.of (by walk_at "lk"))); (case h2 => exact rfl); (case h3 => exact rfl))
  | ((with_reducible refine' r_inL ?h1 ?h2 ?h3 ?_); (case h1 => first | assumption | (exact SqL.of (by walk_at "lk"))); (case h2 => exact rfl); (case h3 => exact rfl))
  | (with_reducible refine r_lc ?_)
  | (with_reducible refine r_for ?_)
  | (with_reducible refine r_iStr ?_)
  | (with_reducible refine r_strE ?_)
  | (with_reducible refine r_iList ?_)
  | ((with_reducible refine' r_listE ?h1 ?_); (case h1 => first | assumption | exact SqL.of (by walk_at "lk")))
  | (with_reducible refine r_iRng1 ?_)
  | ((with_reducible refine' r_rngE ?h0 ?h1 ?_); (case h0 => first | omega | (split <;> omega)); (case h1 => first | omega | (split <;> omega))))
local macro_rules | `(tactic| walk_at "rd") => `(tactic| (repeat walk_at "rd2"))
local macro_rules | `(tactic| walk_at "st") => `(tactic| (repeat (first
  | (with_reducible refine r_gname ?_)
  | (with_reducible refine r_next ?_)
  | (with_reducible refine r_seq ?_)
  | (with_reducible refine r_asg ?_)
  | (with_reducible refine r_ret ?_)
  | (with_reducible refine r_for ?_)
  | (with_reducible refine r_iRng1 ?_)
  | (with_reducible refine r_iList ?_)
  | (with_reducible refine r_cons ?_)
  | (with_reducible refine r_par ?_)
  | (with_reducible refine r_par3 ?_))))
/-! ### errors made, and their fields, as expressions -/
structure XOb (K : PySem.W.Frag) (H : Hp) (a C : Addr) : Prop where
  ex : ∃ (fI : Addr) (d : Option Addr), H a = some (exo a C d) ∧ (∀ dx, d = some dx → ∃ fs, H dx = some (exd dx fs)) ∧ ExG K C fI
theorem XOb.same {K : PySem.W.Frag} {H H' : Hp} {a C : Addr} (e : Same H H') (h : XOb K H a C) : XOb K H' a C := by
  obtain ⟨fI, d, h1, h2, h3⟩ := h.ex
  exact ⟨fI, d, e _ _ h1, fun dx hd => (h2 dx hd).imp fun fs g => e _ _ g, h3⟩
structure ME0 (P : Program) (w : World) (K : PySem.W.Frag) (mg : Str → Option Value) (base : Heap) (k : Nat) (x : Str) (C : Addr) : Prop where
  ex : ∃ fI, ExG K C fI ∧ MakE P w K mg base k x C [] (fun vs zs H Q => zs = [] ∧ ∀ E, spI0 C (vs ++ []) H Q E)
structure ME1 (P : Program) (w : World) (K : PySem.W.Frag) (mg : Str → Option Value) (base : Heap) (k : Nat) (x : Str) (C : Addr) (f : Str) : Prop where
  ex : ∃ fI, ExG K C fI ∧ PySem.W.findIn K (.ref C) f = some none ∧ MakE P w K mg base k x C [] (fun vs zs H Q => zs = [] ∧ ∀ E, spI1 K C f (vs ++ []) H Q E) ∧ MakE P w K mg base k x C [f] (fun vs zs H Q => vs.length = 1 ∧ ∀ E, spI1 K C f (vs ++ zs) H Q E)
structure ME2 (P : Program) (w : World) (K : PySem.W.Frag) (mg : Str → Option Value) (base : Heap) (k : Nat) (x : Str) (C : Addr) (f g : Str) : Prop where
  ex : ∃ fI, ExG K C fI ∧ PySem.W.findIn K (.ref C) f = some none ∧ PySem.W.findIn K (.ref C) g = some none ∧ f ≠ g ∧ MakE P w K mg base k x C [] (fun vs zs H Q => zs = [] ∧ ∀ E, spI2 K C f g (vs ++ []) H Q E) ∧
    MakE P w K mg base k x C [g, f] (fun vs zs H Q => ∃ a o v, vs = [a] ∧ zs = [o, v] ∧ ∀ E, spI2 K C f g [a, v, o] H Q E)
theorem PE.weak {X : Cx} {e : Expr} {t t' : TE} (h : PE X e t) (wk : ∀ σ H Q, t' σ H Q → t σ H Q) : PE X e t' := ⟨fun pins s σ H Q I q => h.run pins s σ H Q I (wk σ H Q q)⟩
/-- the two values stand in slots iv and io -/
def Two (K : PySem.W.Frag) (iv io : Nat) (σ : L2.St) (H : Hp) (v o : V) (d d' : PyData) : Prop := σ[iv]? = some (some v) ∧ σ[io]? = some (some o) ∧ Dp K H v d ∧ DV d ∧ Dp K H o d' ∧ DV d'
def tMk (K : PySem.W.Frag) (C : Addr) (iv io : Nat) : TE := fun σ H Q => ∃ v o d d', Two K iv io σ H v o d d' ∧ ∀ a H', Same H H' → XOb K H' a C → Q (.ref a) H'
def tMv (K : PySem.W.Frag) (sd : Bool) (iv io : Nat) : TE := fun σ H Q => ∃ v o d d', Two K iv io σ H v o d d' ∧ ∀ x H', Same H H' → Dp K H' x (if sd = true then d' else d) → Q x H'
section
variable {X : Cx} {P : Program} {w : World} {mg : Str → Option Value} {base : Heap} {j k : Nat} {x : Str} {C : Addr} {f g : Str} {e e1 e2 : Expr} {p pos pos2 : Pos} {iv io : Nat}
theorem frame_new {H H' : Hp} {a : Addr} {o : HO} (ha : H a = none) (fr : ∀ b u, b ≠ a → (upd H a o) b = some u → H' b = some u) : Same H H' := fun b u eb => fr b u (ne_of_none eb ha) (by rw [upd_ne (ne_of_none eb ha)]; exact eb)
theorem xk_of {K : PySem.W.Frag} {H' : Hp} {a fI dx : Addr} {fs : List (Str × V)} (T : ExG K C fI) (h1 : H' a = some (exo a C (some dx))) (h2 : H' dx = some (exd dx fs)) : XOb K H' a C := ⟨fI, some dx, h1, fun y hy => by cases hy; exact ⟨fs, h2⟩, T⟩
theorem pe_k0 (K : PySem.W.Frag) (c : ME0 X.prog X.w X.K X.mg X.base k x C) (hr : Room j X.A) (hk : k + 1 ≤ j) (hg : Gl X x) (iv io : Nat) (h : X.K = K := by rfl) (hdb : (x == ("__debug__" : Str)) = false := by decide) : PE X (.Call (.Name x p) [] [] pos) (tMk K C iv io) := by
  subst h
  obtain ⟨fI, T, M⟩ := c.ex
  refine PE.weak (pe_mke0 M hr hk hg hdb) ?_
  rintro σ H Q ⟨v, o, d, d', _, q⟩
  exact ⟨rfl, by simp, fun a hna => ⟨rfl, fun E => ⟨a, rfl, upd_same, rfl, q a _ (same_new hna) ⟨fI, none, upd_same, (fun y hy => nomatch hy), T⟩⟩⟩⟩
theorem pe_k1 (K : PySem.W.Frag) (c : ME1 X.prog X.w X.K X.mg X.base k x C f) (hr : Room j X.A) (hk : k + 1 ≤ j) (hg : Gl X x) (ha : PA X [e] (tCons (tVar iv) tNil)) (io : Nat) (h : X.K = K := by rfl) (hdb : (x == ("__debug__" : Str)) = false := by decide)
    (hst : starEach [e] X.env = (false, eval e X.env) :: starEach [] X.env := by rfl) (hpl : ((backTo pos (starEach [e] X.env)).any (·.1) || (backToKw pos (keywordEach [] X.env)).any (·.1.isNone)) = false := by rfl) : PE X (.Call (.Name x p) [e] [] pos) (tMk K C iv io) := by
  subst h
  obtain ⟨fI, T, hno, M, _⟩ := c.ex
  refine PE.weak (pe_mke (kws := []) (tk := tNil) M hr hk hg ha pk_nil rfl rfl hdb hst hpl) ?_
  rintro σ H Q ⟨v, o, d, d', ⟨hv, ho, dv, hd, dw, hd'⟩, q⟩
  refine ⟨v, hv, rfl, by simp, fun a hna => ⟨rfl, fun E => ⟨a, v, d, rfl, upd_same, Dp.sameD (same_new hna) hd dv, hd, fun v' dx H' fr h1 h2 h3 => ⟨rfl, ?_⟩⟩⟩⟩
  exact q a H' (frame_new hna fr) (xk_of T h1 h2)
theorem pe_k2 (K : PySem.W.Frag) (c : ME2 X.prog X.w X.K X.mg X.base k x C f g) (hr : Room j X.A) (hk : k + 1 ≤ j) (hg : Gl X x) (ha : PA X [e1, e2] (tCons (tVar iv) (tCons (tVar io) tNil))) (h : X.K = K := by rfl) (hdb : (x == ("__debug__" : Str)) = false := by decide)
    (hst : starEach [e1, e2] X.env = (false, eval e1 X.env) :: starEach [e2] X.env := by rfl) (hpl : ((backTo pos (starEach [e1, e2] X.env)).any (·.1) || (backToKw pos (keywordEach [] X.env)).any (·.1.isNone)) = false := by rfl) : PE X (.Call (.Name x p) [e1, e2] [] pos) (tMk K C iv io) := by
  subst h
  obtain ⟨fI, T, hno, hno2, hfg, M, _⟩ := c.ex
  refine PE.weak (pe_mke (kws := []) (tk := tNil) M hr hk hg ha pk_nil rfl rfl hdb hst hpl) ?_
  rintro σ H Q ⟨v, o, d, d', ⟨hv, ho, dv, hd, dw, hd'⟩, q⟩
  refine ⟨v, hv, o, ho, rfl, by simp, fun a hna => ⟨rfl, fun E => ⟨a, v, o, d, d', rfl, upd_same, Dp.sameD (same_new hna) hd dv, hd, Dp.sameD (same_new hna) hd' dw, hd', fun v' o' dx H' fr h1 h2 h3 h4 => ⟨rfl, ?_⟩⟩⟩⟩
  exact q a H' (frame_new hna fr) (xk_of T h1 h2)
theorem pe_v1 (K : PySem.W.Frag) (c : ME1 X.prog X.w X.K X.mg X.base k x C f) (hr : Room j X.A) (hk : k + 1 ≤ j) (hg : Gl X x) (ha : PA X [e] (tCons (tVar iv) tNil)) (io : Nat) (h : X.K = K := by rfl) (hdb : (x == ("__debug__" : Str)) = false := by decide)
    (hst : starEach [e] X.env = (false, eval e X.env) :: starEach [] X.env := by rfl) (hpl : ((backTo pos (starEach [e] X.env)).any (·.1) || (backToKw pos (keywordEach [] X.env)).any (·.1.isNone)) = false := by rfl)
    (hb : attributeBase (.Call (.Name x p) [e] [] pos) f X.env (eval (.Call (.Name x p) [e] [] pos) X.env) = eval (.Call (.Name x p) [e] [] pos) X.env := by rfl) : PE X (.Attribute (.Call (.Name x p) [e] [] pos) f pos2) (tMv K false iv io) := by
  subst h
  obtain ⟨fI, T, hno, M, _⟩ := c.ex
  refine PE.weak (pe_exf X.K (pe_mke (kws := []) (tk := tNil) M hr hk hg ha pk_nil rfl rfl hdb hst hpl) hb) ?_
  rintro σ H Q ⟨v, o, d, d', ⟨hv, ho, dv, hd, dw, hd'⟩, q⟩
  refine ⟨v, hv, rfl, by simp, fun a hna => ⟨rfl, fun E => ⟨a, v, d, rfl, upd_same, Dp.sameD (same_new hna) hd dv, hd, fun v' dx H' fr h1 h2 h3 => ⟨rfl, a, C, fI, dx, _, v', rfl, h1, h2, T, hno, by simp [List.lookup], ?_⟩⟩⟩⟩
  exact q v' H' (frame_new hna fr) h3
theorem pe_v1k (K : PySem.W.Frag) {kws : List Keyword} (c : ME1 X.prog X.w X.K X.mg X.base k x C f) (hr : Room j X.A) (hk : k + 1 ≤ j) (hg : Gl X x) (hkw : PK X kws (tCons (tVar iv) tNil)) (io : Nat) (h : X.K = K := by rfl)
    (hall : (backToKw pos (keywordEach kws X.env)).all (·.1.isSome) = true := by rfl) (hks : (backToKw pos (keywordEach kws X.env)).filterMap (·.1) = [f] := by rfl) (hdb : (x == ("__debug__" : Str)) = false := by decide)
    (hpl : ((backTo pos (starEach [] X.env)).any (·.1) || (backToKw pos (keywordEach kws X.env)).any (·.1.isNone)) = false := by rfl)
    (hb : attributeBase (.Call (.Name x p) [] kws pos) f X.env (eval (.Call (.Name x p) [] kws pos) X.env) = eval (.Call (.Name x p) [] kws pos) X.env := by rfl) : PE X (.Attribute (.Call (.Name x p) [] kws pos) f pos2) (tMv K false iv io) := by
  subst h
  obtain ⟨fI, T, hno, _, M⟩ := c.ex
  refine PE.weak (pe_exf X.K (pe_mkeK M hr hk hg hkw hall hks hdb hpl) hb) ?_
  rintro σ H Q ⟨v, o, d, d', ⟨hv, ho, dv, hd, dw, hd'⟩, q⟩
  refine ⟨v, hv, rfl, by simp, fun a hna => ⟨rfl, fun E => ⟨a, v, d, rfl, upd_same, Dp.sameD (same_new hna) hd dv, hd, fun v' dx H' fr h1 h2 h3 => ⟨rfl, a, C, fI, dx, _, v', rfl, h1, h2, T, hno, by simp [List.lookup], ?_⟩⟩⟩⟩
  exact q v' H' (frame_new hna fr) h3
theorem pe_v2 (K : PySem.W.Frag) (sd : Bool) (c : ME2 X.prog X.w X.K X.mg X.base k x C f g) (hr : Room j X.A) (hk : k + 1 ≤ j) (hg : Gl X x) (ha : PA X [e1, e2] (tCons (tVar iv) (tCons (tVar io) tNil))) (h : X.K = K := by rfl) (hdb : (x == ("__debug__" : Str)) = false := by decide)
    (hst : starEach [e1, e2] X.env = (false, eval e1 X.env) :: starEach [e2] X.env := by rfl) (hpl : ((backTo pos (starEach [e1, e2] X.env)).any (·.1) || (backToKw pos (keywordEach [] X.env)).any (·.1.isNone)) = false := by rfl)
    (hb : attributeBase (.Call (.Name x p) [e1, e2] [] pos) (if sd = true then g else f) X.env (eval (.Call (.Name x p) [e1, e2] [] pos) X.env) = eval (.Call (.Name x p) [e1, e2] [] pos) X.env := by rfl) : PE X (.Attribute (.Call (.Name x p) [e1, e2] [] pos) (if sd = true then g else f) pos2) (tMv K sd iv io) := by
  subst h
  obtain ⟨fI, T, hno, hno2, hfg, M, _⟩ := c.ex
  refine PE.weak (pe_exf X.K (pe_mke (kws := []) (tk := tNil) M hr hk hg ha pk_nil rfl rfl hdb hst hpl) hb) ?_
  rintro σ H Q ⟨v, o, d, d', ⟨hv, ho, dv, hd, dw, hd'⟩, q⟩
  refine ⟨v, hv, o, ho, rfl, by simp, fun a hna => ⟨rfl, fun E => ⟨a, v, o, d, d', rfl, upd_same, Dp.sameD (same_new hna) hd dv, hd, Dp.sameD (same_new hna) hd' dw, hd', fun v' o' dx H' fr h1 h2 h3 h4 => ⟨rfl, a, C, fI, dx, _, if sd = true then o' else v', rfl, h1, h2, T, ?_, ?_, ?_⟩⟩⟩⟩
  · cases sd <;> assumption
  · cases sd
    · simp [lookup_put, hfg]
    · simp [lookup_put]
  · refine q _ H' (frame_new hna fr) ?_
    cases sd
    · exact h3
    · exact h4
theorem pe_v2k (K : PySem.W.Frag) (sd : Bool) {kws : List Keyword} (c : ME2 X.prog X.w X.K X.mg X.base k x C f g) (hr : Room j X.A) (hk : k + 1 ≤ j) (hg : Gl X x) (hkw : PK X kws (tCons (tVar io) (tCons (tVar iv) tNil))) (h : X.K = K := by rfl)
    (hall : (backToKw pos (keywordEach kws X.env)).all (·.1.isSome) = true := by rfl) (hks : (backToKw pos (keywordEach kws X.env)).filterMap (·.1) = [g, f] := by rfl) (hdb : (x == ("__debug__" : Str)) = false := by decide)
    (hpl : ((backTo pos (starEach [] X.env)).any (·.1) || (backToKw pos (keywordEach kws X.env)).any (·.1.isNone)) = false := by rfl)
    (hb : attributeBase (.Call (.Name x p) [] kws pos) (if sd = true then g else f) X.env (eval (.Call (.Name x p) [] kws pos) X.env) = eval (.Call (.Name x p) [] kws pos) X.env := by rfl) : PE X (.Attribute (.Call (.Name x p) [] kws pos) (if sd = true then g else f) pos2) (tMv K sd iv io) := by
  subst h
  obtain ⟨fI, T, hno, hno2, hfg, _, M⟩ := c.ex
  refine PE.weak (pe_exf X.K (pe_mkeK M hr hk hg hkw hall hks hdb hpl) hb) ?_
  rintro σ H Q ⟨v, o, d, d', ⟨hv, ho, dv, hd, dw, hd'⟩, q⟩
  refine ⟨o, ho, v, hv, rfl, by simp, fun a hna => ⟨.ref a, o, v, rfl, rfl, fun E => ⟨a, v, o, d, d', rfl, upd_same, Dp.sameD (same_new hna) hd dv, hd, Dp.sameD (same_new hna) hd' dw, hd', fun v' o' dx H' fr h1 h2 h3 h4 => ⟨rfl, a, C, fI, dx, _, if sd = true then o' else v', rfl, h1, h2, T, ?_, ?_, ?_⟩⟩⟩⟩
  · cases sd <;> assumption
  · cases sd
    · simp [lookup_put, hfg]
    · simp [lookup_put]
  · refine q _ H' (frame_new hna fr) ?_
    cases sd
    · exact h3
    · exact h4
end
end Th
namespace Th
open PySem PySem.Spec PyProof.Rows L2
local macro_rules | `(tactic| walk_at "lk") => `(tactic| first
  | assumption
  | exact upd_same
  | (refine upd_old (by assumption) ?_; walk_at "lk")
  | (refine upd_diff (by assumption) ?_; walk_at "lk")
  | (refine upd_diff (Ne.symm (by assumption)) ?_; walk_at "lk"))
local macro_rules | `(tactic| walk_at "cnd") => `(tactic| first
  | omega
  | (refine ⟨by omega, by omega⟩)
  | (refine ⟨by omega, by omega, by omega⟩)
  | (refine .inl ⟨by omega, by omega⟩)
  | (refine .inr ⟨by omega, by omega⟩)
  | (exact (show CPow _ _ from ⟨by decide, by decide, by omega⟩))
  | decide +kernel
  | (unfold CMulW; decide +kernel)
  | (exact wide_div (b := 64) (by omega) (by omega) (by decide) (by decide)))
local macro_rules | `(tactic| walk_at "rd1") => `(tactic| first
  | (with_reducible refine r_seq ?_)
  | (with_reducible refine r_asg ?_)
  | (with_reducible refine r_ret ?_)
  | (with_reducible refine r_if ?_)
  | (with_reducible refine r_gname ?_)
  | ((with_reducible refine' r_var ?hv ?_); (case hv => exact rfl))
  | (with_reducible refine r_c ?_)
  | (with_reducible refine r_op ?_)
  | (with_reducible refine r_I0 ?_)
  | ((with_reducible refine r_I ?hc ?_); (case hc => walk_at "cnd"))
  | (with_reducible refine r_test ?_)
  | (with_reducible refine r_tB ?_)
  | (with_reducible refine r_bl ?_)
  | (with_reducible refine r_not ?_)
  | (with_reducible refine r_and ?_)
  | (with_reducible refine r_or ?_)
  | (with_reducible refine r_ifE ?_)
  | (with_reducible refine r_notV ?_)
  | (with_reducible refine r_andV ?_)
  | (with_reducible refine r_orV ?_)
  | (with_reducible refine r_chain ?_)
  | (with_reducible refine r_cb ?_)
  | (with_reducible refine r_call ?_)
  | (with_reducible refine r_callN ?_)
  | (with_reducible refine r_nil ?_)
  | (with_reducible refine r_cons ?_)
  | ((with_reducible refine r_lst ?_))
  | ((with_reducible refine r_tup ?_))
  | ((with_reducible refine r_new ?_ ?_); (exact Nat.le_of_ble_eq_true rfl); (intro p hp))
  | (with_reducible refine r_rInt1 ?_)
  | (with_reducible refine r_rIntB ?_)
  | (with_reducible refine r_rAbs ?_)
  | (with_reducible refine r_rMin2 ?_)
  | (with_reducible refine r_rMax2 ?_)
  | ((with_reducible refine r_rLenZ ?hz ?_); (case hz => first | assumption | exact Nat.le_of_ble_eq_true rfl | (refine Nat.le_trans ?_ (by decide : 100000 ≤ sizeLine); omega)))
  | ((with_reducible refine r_addZ ?hz ?_); (case hz => (refine Nat.le_trans ?_ (by decide : 100000 ≤ sizeLine); first | omega | (simp only [Str.length] at *; simp; omega))))
  | ((with_reducible refine r_mulZ ?hz ?h0 ?h1 ?_); (case hz => first | omega | exact Nat.le_of_ble_eq_true rfl); (case h0 => omega); (case h1 => omega))
  | ((with_reducible refine' r_rLenQ ?h1 ?_); (case h1 => first | (exact .inl (by assumption)) | (exact .inr (by assumption)) | (exact .inl (SqL.of (by walk_at "lk"))) | (exact .inr (SqT.of (by walk_at "lk")))))
  | ((with_reducible refine r_eq ?hs ?_); (case hs => exact rfl))
  | ((with_reducible refine r_ne ?hs ?_); (case hs => exact rfl))
  | (with_reducible refine r_inC ?_)
  | ((with_reducible refine' r_cat ?h1 ?h2 ?h3 ?_); (case h1 => walk_at "lk"); (case h2 => walk_at "lk"); (case h3 => exact Nat.le_of_ble_eq_true rfl); (intro p hp))
  | ((with_reducible refine' r_rep ?h1 ?h2 ?h3 ?h4 ?_); (case h1 => walk_at "lk"); (case h2 => omega); (case h3 => omega); (case h4 => exact Nat.le_of_ble_eq_true rfl); (intro p hp))
  | ((with_reducible refine' r_append ?h1 ?h2 ?_); (case h1 => walk_at "lk"); (case h2 => first | exact (show _ + 1 ≤ sizeLine from Nat.le_of_ble_eq_true rfl) | exact Nat.lt_of_le_of_lt (by omega : _ ≤ 100000) (by decide)))
  | (with_reducible refine r_bm ?_)
  | ((with_reducible refine' r_tyL ?h1 ?_); (case h1 => walk_at "lk"))
  | ((with_reducible refine' r_ixL ?h1 ?h2 ?_); (case h1 => first | assumption | exact SqL.of (by walk_at "lk")); (case h2 => exact rfl))
  | ((with_reducible refine' r_ixT ?h1 ?h2 ?_); (case h1 => first | assumption | exact SqT.of (by walk_at "lk")); (case h2 => exact rfl))
  | (with_reducible refine r_gsub ?_)
  | ((with_reducible refine' r_setL ?h1 ?h2 ?_); (case h1 => walk_at "lk"); (case h2 => exact rfl))
  | (with_reducible refine r_un ?_)
  | (with_reducible refine r_neg ?_)
  | (with_reducible refine r_iteT ?_)
  | (with_reducible refine r_iteNT ?_)
  | (with_reducible refine r_iteNF ?_)
  | (with_reducible refine r_iteF ?_)
  | (with_reducible refine r_next ?_)
  | (with_reducible refine r_drop ?_)
  | (with_reducible refine r_cont ?_)
  | (with_reducible refine r_brk ?_))
local macro_rules | `(tactic| walk_at "ty") => `(tactic| first
  | assumption
  | exact .base (.int _)
  | exact .base (.str _)
  | exact .base (.bl _)
  | exact .base .non
  | exact .byt _
  | exact .base (.lst (by walk_at "lk"))
  | exact .base (.tup (by walk_at "lk")))
local macro_rules | `(tactic| walk_at "rd2") => `(tactic| first
  | walk_at "rd1"
  | ((with_reducible refine' r_isi true ?ht ?hk ?_); (case ht => walk_at "ty"); (case hk => first | assumption | decide +kernel))
  | ((with_reducible refine' r_isi false ?ht ?hk ?_); (case ht => walk_at "ty"); (case hk => first | assumption | decide +kernel))
  | ((with_reducible refine' r_isiT2 true true ?hT ?ht ?hk ?hk2 ?_); (case hT => walk_at "lk"); (case ht => walk_at "ty"); (case hk => decide +kernel); (case hk2 => decide +kernel))
  | ((with_reducible refine' r_isiT2 true false ?hT ?ht ?hk ?hk2 ?_); (case hT => walk_at "lk"); (case ht => walk_at "ty"); (case hk => decide +kernel); (case hk2 => decide +kernel))
  | ((with_reducible refine' r_isiT2 false true ?hT ?ht ?hk ?hk2 ?_); (case hT => walk_at "lk"); (case ht => walk_at "ty"); (case hk => decide +kernel); (case hk2 => decide +kernel))
  | ((with_reducible refine' r_isiT2 false false ?hT ?ht ?hk ?hk2 ?_); (case hT => walk_at "lk"); (case ht => walk_at "ty"); (case hk => decide +kernel); (case hk2 => decide +kernel))
  | (with_reducible refine r_iteNT ?_)
  | ((show (if (!true) = true then _ else _)); refine r_iteNT ?_)
  | (with_reducible refine r_r1 ?_)
  | (with_reducible refine r_maks ?_)
  | (with_reducible refine r_sfld ?_)
  | ((with_reducible refine' r_sfldE ?h1 ?h2 ?h3 ?h4 ?_); (case h1 => walk_at "lk"); (case h2 => assumption); (case h3 => assumption); (case h4 => exact (show _ + 1 ≤ 1000 from Nat.le_of_ble_eq_true rfl)))
  | (with_reducible refine r_fld ?_)
  | (with_reducible refine r_join ?_)
  | (with_reducible refine r_jcons ?_)
  | (with_reducible refine r_jnil ?_)
  | ((with_reducible refine r_rLenY ?hz ?_); (case hz => first | assumption | (refine Nat.le_trans ?_ (by decide : 100000 ≤ sizeLine); omega)))
  | (with_reducible refine r_par ?_)
  | (with_reducible refine r_pair ?_)
  | (with_reducible refine r_par3 ?_)
  | (with_reducible refine r_trip ?_)
  | ((with_reducible refine' r_gtup ?h1 ?h2 ?_); (case h1 => first | assumption | exact SqT.of (by walk_at "lk")); (case h2 => exact rfl))
  | (with_reducible refine r_gcons ?_)
  | (with_reducible refine r_gnil ?_)
  | ((with_reducible refine' r_slL ?h1 ?_); (case h1 => first | assumption | exact SqL.of (by walk_at "lk")); (intro p hp))
  | (with_reducible refine r_iTup ?_)
  | ((with_reducible refine' r_tupE ?h1 ?_); (case h1 => first | assumption | exact SqT.of (by walk_at "lk")))
  | (with_reducible refine r_m1 ?_)
  | (with_reducible refine r_isZ ?_)
  | (with_reducible refine r_sl ?_)
  | (with_reducible refine r_noPart ?_)
  | (with_reducible refine r_part ?_)
  | (with_reducible refine r_partE ?_)
  | ((with_reducible refine r_slS ?hz ?_); (case hz => first | assumption | (refine Nat.le_trans ?_ (by decide : 100000 ≤ sizeLine); omega)))
  | ((with_reducible refine' r_inT ?h1 ?h2 ?h3 ?_); (case h1 => first | assumption | (exact SqT.of (by walk_at "lk"))); (case h2 => exact rfl); (case h3 => exact rfl))
  | ((with_reducible refine' r_inL ?h1 ?h2 ?h3 ?_); (case h1 => first | assumption | (exact SqL.of (by walk_at "lk"))); (case h2 => exact rfl); (case h3 => exact rfl))
  | (with_reducible refine r_lc ?_)
  | (with_reducible refine r_for ?_)
  | (with_reducible refine r_iStr ?_)
  | (with_reducible refine r_strE ?_)
  | (with_reducible refine r_iList ?_)
  | ((with_reducible refine' r_listE ?h1 ?_); (case h1 => first | assumption | exact SqL.of (by walk_at "lk")))
  | (with_reducible refine r_iRng1 ?_)
  | ((with_reducible refine' r_rngE ?h0 ?h1 ?_); (case h0 => first | omega | (split <;> omega)); (case h1 => first | omega | (split <;> omega))))
local macro_rules | `(tactic| walk_at "rd") => `(tactic| (repeat walk_at "rd2"))
local macro_rules | `(tactic| walk_at "st") => `(tactic| (repeat (first
  | (with_reducible refine r_gname ?_)
  | (with_reducible refine r_next ?_)
  | (with_reducible refine r_seq ?_)
  | (with_reducible refine r_asg ?_)
  | (with_reducible refine r_ret ?_)
  | (with_reducible refine r_for ?_)
  | (with_reducible refine r_iRng1 ?_)
  | (with_reducible refine r_iList ?_)
  | (with_reducible refine r_cons ?_)
  | (with_reducible refine r_par ?_)
  | (with_reducible refine r_par3 ?_))))
/-! ### the classes' kinds -/
structure ExM (K : PySem.W.Frag) (C : Addr) (bm : List Value) : Prop where
  cd : ∃ cd, PySem.W.clsIn K C = some cd ∧ cd.mro = .ref C :: bm
  ty : PySem.W.typeIn K (.ref C) = some (.type "type")
theorem mro_of {K : PySem.W.Frag} {C : Addr} {bm : List Value} (M : ExM K C bm) (b : Value) : PySem.W.subIn K (.ref C) b = some ((Value.ref C :: bm).contains b) := by
  obtain ⟨cd, h1, h2⟩ := M.cd
  show PySem.W.mroIn K C b = _
  unfold PySem.W.mroIn
  rw [h1, Option.bind_some, h2, if_neg (by simp)]
theorem kit_cc {K : PySem.W.Frag} {C D : Addr} {bm bm' : List Value} (M : ExM K C bm) (N : ExM K D bm') (hb : bm.contains (.ref D) = false) : PySem.W.kitOne K (.ref C) (.ref D) = some (decide (C = D)) := by
  unfold PySem.W.kitOne
  by_cases e : C = D
  · subst e
    rw [if_pos (beq_self_eq_true _), decide_eq_true rfl]
  · have e2 : (Value.ref C == Value.ref D) = false := by
      rw [beq_eq_false_iff_ne]
      intro z
      injection z with z
      exact e z
    rw [e2, if_neg Bool.false_ne_true]
    unfold PySem.W.kitCls
    obtain ⟨cd, h1, h2⟩ := N.cd
    have h3 : ((PySem.W.clsIn K D).isSome && PySem.W.typeIn K (.ref D) == some (.type "type")) = true := by rw [h1, N.ty]; rfl
    dsimp only
    have e3 : (Value.ref D == Value.ref C) = false := by
      rw [beq_eq_false_iff_ne]
      intro z
      injection z with z
      exact e z.symm
    rw [if_pos h3, mro_of M, List.contains_cons, e3, hb, decide_eq_false e]
    rfl
theorem kit_ct {K : PySem.W.Frag} {C : Addr} {bm : List Value} {T : String} (M : ExM K C bm) (hT : PySem.W.kitMeta T = true) : PySem.W.kitOne K (.ref C) (.type T) = some (bm.contains (.type T)) := by
  unfold PySem.W.kitOne
  have e2 : (Value.ref C == Value.type T) = false := rfl
  rw [e2, if_neg Bool.false_ne_true]
  unfold PySem.W.kitCls
  dsimp only
  rw [if_pos hT, mro_of M, List.contains_cons]
  rfl
def mT : List Value := [.type "TypeError", .type "Exception", .type "BaseException", .type "object"]
def mV : List Value := [.type "ValueError", .type "Exception", .type "BaseException", .type "object"]
def mO : List Value := [.type "OverflowError", .type "ArithmeticError", .type "Exception", .type "BaseException", .type "object"]
def mR : List Value := [.type "RuntimeError", .type "Exception", .type "BaseException", .type "object"]
def mI : List Value := [.type "IndexError", .type "LookupError", .type "Exception", .type "BaseException", .type "object"]
def mY : List Value := [.type "KeyError", .type "LookupError", .type "Exception", .type "BaseException", .type "object"]
def mL : List Value := [.type "LookupError", .type "Exception", .type "BaseException", .type "object"]
structure Es where
  NoBlob : Addr
  NoData : Addr
  NoName : Addr
  NoMode : Addr
  NoTime : Addr
  NoSize : Addr
  NoPieces : Addr
  NoBlock : Addr
  NoMember : Addr
  TooMany : Addr
  Closed : Addr
  NoOffset : Addr
  Torn : Addr
  Wrong : Addr
  NoHouse : Addr
  NoPath : Addr
  Refused : Addr
  NoIndex : Addr
  NoEdit : Addr
  NoText : Addr
  NoCommand : Addr
def Es.all (c : Es) : List Addr := [c.NoBlob, c.NoData, c.NoName, c.NoMode, c.NoTime, c.NoSize, c.NoPieces, c.NoBlock, c.NoMember, c.TooMany, c.Closed, c.NoOffset, c.Torn, c.Wrong, c.NoHouse, c.NoPath, c.Refused, c.NoIndex, c.NoEdit, c.NoText, c.NoCommand]
def bms : List (List Value) := [mT, mT, mV, mV, mO, mV, mV, mT, mT, mO, mR, mI, mV, mV, mT, mY, mR, mI, mL, mV, mV]
structure EsOk (K : PySem.W.Frag) (c : Es) : Prop where
  m : Paired (ExM K) c.all bms
  nd : c.all.Nodup
theorem bms_types : ∀ bm ∈ bms, ∀ D : Addr, bm.contains (.ref D) = false := by
  intro bm hb D
  simp only [bms, List.mem_cons, List.not_mem_nil, or_false] at hb
  rcases hb with rfl | rfl | rfl | rfl | rfl | rfl | rfl | rfl | rfl | rfl | rfl | rfl | rfl | rfl | rfl | rfl | rfl | rfl | rfl | rfl | rfl <;> rfl
theorem paired_mem {α β : Type} {R : α → β → Prop} : ∀ {xs : List α} {ys : List β}, Paired R xs ys → ∀ x ∈ xs, ∃ y ∈ ys, R x y
  | _, _, .nil, x, h => nomatch h
  | _, _, .cons r t, x, h => by
    rcases List.mem_cons.mp h with rfl | h
    · exact ⟨_, List.mem_cons_self, r⟩
    · obtain ⟨y, h1, h2⟩ := paired_mem t x h
      exact ⟨y, List.mem_cons_of_mem _ h1, h2⟩
theorem r_isX {K : PySem.W.Frag} {H : Hp} {Q : VK} {a C D : Addr} {c : Es} (E : EsOk K c) (x : XOb K H a C) (hC : C ∈ c.all) (hD : D ∈ c.all) (q : Q (.bl (decide (C = D))) H) : rIsX K [.ref a, .ref D] H Q := by
  obtain ⟨fI, d, h1, h2, T⟩ := x.ex
  obtain ⟨bm, hb, M⟩ := paired_mem E.m C hC
  obtain ⟨bm', _, N⟩ := paired_mem E.m D hD
  exact ⟨a, C, fI, d, .ref D, .ref D, _, rfl, h1, h2, T, .own D, kit_cc M N (bms_types bm hb D), q⟩
theorem r_isXT {K : PySem.W.Frag} {H : Hp} {Q : VK} {a C : Addr} {bm : List Value} {T : String} (M : ExM K C bm) (x : XOb K H a C) (hT : PySem.W.kitMeta T = true) (q : Q (.bl (bm.contains (.type T))) H) : rIsX K [.ref a, .ty T] H Q := by
  obtain ⟨fI, d, h1, h2, T'⟩ := x.ex
  exact ⟨a, C, fI, d, .ty T, .type T, _, rfl, h1, h2, T', .ty T, kit_ct M hT, q⟩
theorem XOb.new {K : PySem.W.Frag} {H : Hp} {a C p : Addr} {o : HO} (hp : H p = none) (h : XOb K H a C) : XOb K (upd H p o) a C := h.same (same_new hp)
local macro_rules | `(tactic| walk_at "xo") => `(tactic| first | assumption | (refine XOb.new (by assumption) ?_; walk_at "xo"))
theorem Same.lay {H H1 : Hp} {p : Addr} {o : HO} (hp : H1 p = none) (e : Same H H1) : Same H (upd H1 p o) := e.trans (same_new hp)
local macro_rules | `(tactic| walk_at "sm") => `(tactic| first | assumption | exact Same.refl _ | (refine Same.lay (by assumption) ?_; walk_at "sm"))
def spCatch (K : PySem.W.Frag) : Sp := fun vs H Q _ => ∃ (a C : Addr) (bm : List Value) (n : String) (r : List Value), vs = [.ref a] ∧ XOb K H a C ∧ ExM K C bm ∧ bm ∈ bms ∧ bm = .type n :: r ∧ Q (.str n) H
def spKinds (K : PySem.W.Frag) (c : Es) : Sp := fun vs H Q _ => ∃ (a C : Addr), vs = [.ref a] ∧ XOb K H a C ∧ C ∈ c.all ∧ ∀ L H', Same H H' → H' L = some (.lst (c.all.map fun D => V.bl (decide (C = D)))) → Q (.ref L) H'
section
variable {P : Program} {w : World} {K : PySem.W.Frag} {mg : Str → Option Value} {base : Heap}
theorem ok_catch {f : Addr} {fd : FuncData} {k : Nat} (F : Fun K "_law_catch" "_law_catch" s__law_catch f fd) (m1 : mg "isinstance" = none) (m2 : mg "LookupError" = none) (m3 : mg "KeyError" = none) (m4 : mg "IndexError" = none) (m5 : mg "ArithmeticError" = none) (m6 : mg "OverflowError" = none) (m7 : mg "ValueError" = none) (m8 : mg "TypeError" = none) (m9 : mg "RuntimeError" = none) :
    FnOk P w K mg base CX0 (k + 1) f fd ["_law_error"] (spCatch K) := by
  refine F.ok sc__law_catch (fun vs H Q E h => ?_) (fun cdv A outer s H vs Q E hr h => ?_)
  · obtain ⟨a, C, bm, n, r, rfl, _⟩ := h
    rfl
  · obtain ⟨a, C, bm, n, r, rfl, hx, M, hb, hn, q⟩ := h
    have hu := hu_of hr
    have nd := sc__law_catch.nd
    refine ⟨_, (pss_cons (ps_if (pt_val (pe_callB (call_isX K) (by rfl) (by assumption) (by decide +kernel) (pa_cons (pv 0) (pa_cons (pe_bltn (v := .ty "LookupError") (by rfl) (by assumption) (by decide +kernel) rfl) pa_nil))))
        (pss_cons (ps_if (pt_val (pe_callB (call_isX K) (by rfl) (by assumption) (by decide +kernel) (pa_cons (pv 0) (pa_cons (pe_bltn (v := .ty "KeyError") (by rfl) (by assumption) (by decide +kernel) rfl) pa_nil))))
        (pss_one (ps_ret pe_str))
        pss_nil)
      (pss_one (ps_ret (pe_ifExp (pt_val (pe_callB (call_isX K) (by rfl) (by assumption) (by decide +kernel) (pa_cons (pv 0) (pa_cons (pe_bltn (v := .ty "IndexError") (by rfl) (by assumption) (by decide +kernel) rfl) pa_nil)))) pe_str pe_str))))
        pss_nil)
      (pss_cons (ps_if (pt_val (pe_callB (call_isX K) (by rfl) (by assumption) (by decide +kernel) (pa_cons (pv 0) (pa_cons (pe_bltn (v := .ty "ArithmeticError") (by rfl) (by assumption) (by decide +kernel) rfl) pa_nil))))
        (pss_one (ps_ret (pe_ifExp (pt_val (pe_callB (call_isX K) (by rfl) (by assumption) (by decide +kernel) (pa_cons (pv 0) (pa_cons (pe_bltn (v := .ty "OverflowError") (by rfl) (by assumption) (by decide +kernel) rfl) pa_nil)))) pe_str pe_str)))
        pss_nil)
      (pss_cons (ps_if (pt_val (pe_callB (call_isX K) (by rfl) (by assumption) (by decide +kernel) (pa_cons (pv 0) (pa_cons (pe_bltn (v := .ty "ValueError") (by rfl) (by assumption) (by decide +kernel) rfl) pa_nil))))
        (pss_one (ps_ret pe_str))
        pss_nil)
      (pss_cons (ps_if (pt_val (pe_callB (call_isX K) (by rfl) (by assumption) (by decide +kernel) (pa_cons (pv 0) (pa_cons (pe_bltn (v := .ty "TypeError") (by rfl) (by assumption) (by decide +kernel) rfl) pa_nil))))
        (pss_one (ps_ret pe_str))
        pss_nil)
      (pss_one (ps_ret (pe_ifExp (pt_val (pe_callB (call_isX K) (by rfl) (by assumption) (by decide +kernel) (pa_cons (pv 0) (pa_cons (pe_bltn (v := .ty "RuntimeError") (by rfl) (by assumption) (by decide +kernel) rfl) pa_nil)))) pe_str pe_str))))))), ?_⟩
    obtain rfl | rfl | rfl | rfl | rfl | rfl | rfl : bm = mT ∨ bm = mV ∨ bm = mO ∨ bm = mR ∨ bm = mI ∨ bm = mY ∨ bm = mL := by
      simp only [bms, List.mem_cons, List.not_mem_nil, or_false] at hb
      rcases hb with rfl | rfl | rfl | rfl | rfl | rfl | rfl | rfl | rfl | rfl | rfl | rfl | rfl | rfl | rfl | rfl | rfl | rfl | rfl | rfl | rfl <;> simp
    all_goals
      injection hn with hn _
      injection hn with hn
      subst hn
      repeat (first
        | walk_at "rd2"
        | refine r_isXT M hx (by decide +kernel) ?_
        | (refine r_iteB (fun _ => ?_) (fun h => absurd h (by decide +kernel)))
        | (refine r_iteB (fun h => absurd h (by decide +kernel)) (fun _ => ?_)))
      exact q
theorem ok_kinds {f : Addr} {fd : FuncData} {k : Nat} {c : Es} (F : Fun K "_law_kinds" "_law_kinds" s__law_kinds f fd) (m1 : mg "isinstance" = none) (E0 : EsOk K c)
    (m_NoBlob : mg "NoBlob" = some (.ref c.NoBlob)) (m_NoData : mg "NoData" = some (.ref c.NoData)) (m_NoName : mg "NoName" = some (.ref c.NoName)) (m_NoMode : mg "NoMode" = some (.ref c.NoMode)) (m_NoTime : mg "NoTime" = some (.ref c.NoTime)) (m_NoSize : mg "NoSize" = some (.ref c.NoSize)) (m_NoPieces : mg "NoPieces" = some (.ref c.NoPieces)) (m_NoBlock : mg "NoBlock" = some (.ref c.NoBlock)) (m_NoMember : mg "NoMember" = some (.ref c.NoMember)) (m_TooMany : mg "TooMany" = some (.ref c.TooMany)) (m_Closed : mg "Closed" = some (.ref c.Closed)) (m_NoOffset : mg "NoOffset" = some (.ref c.NoOffset)) (m_Torn : mg "Torn" = some (.ref c.Torn)) (m_Wrong : mg "Wrong" = some (.ref c.Wrong)) (m_NoHouse : mg "NoHouse" = some (.ref c.NoHouse)) (m_NoPath : mg "NoPath" = some (.ref c.NoPath)) (m_Refused : mg "Refused" = some (.ref c.Refused)) (m_NoIndex : mg "NoIndex" = some (.ref c.NoIndex)) (m_NoEdit : mg "NoEdit" = some (.ref c.NoEdit)) (m_NoText : mg "NoText" = some (.ref c.NoText)) (m_NoCommand : mg "NoCommand" = some (.ref c.NoCommand)) : FnOk P w K mg base CX0 (k + 1) f fd ["_law_error"] (spKinds K c) := by
  refine F.ok sc__law_kinds (fun vs H Q E h => ?_) (fun cdv A outer s H vs Q E hr h => ?_)
  · obtain ⟨a, C, rfl, _⟩ := h
    rfl
  · obtain ⟨a, C, rfl, hx, hC, q⟩ := h
    have hu := hu_of hr
    have nd := sc__law_kinds.nd
    refine ⟨_, (pss_cons (ps_set (i := 1) nd rfl (Or.inl rfl) (pe_lst (pa_cons (pe_callB (call_isX K) (by rfl) (by assumption) (by decide +kernel) (pa_cons (pv 0) (pa_cons (pe_glob (v := .ref c.NoBlob) (by rfl) m_NoBlob (by first | exact rfl | exact ⟨_, rfl⟩)) pa_nil))) (pa_cons (pe_callB (call_isX K) (by rfl) (by assumption) (by decide +kernel) (pa_cons (pv 0) (pa_cons (pe_glob (v := .ref c.NoData) (by rfl) m_NoData (by first | exact rfl | exact ⟨_, rfl⟩)) pa_nil))) (pa_cons (pe_callB (call_isX K) (by rfl) (by assumption) (by decide +kernel) (pa_cons (pv 0) (pa_cons (pe_glob (v := .ref c.NoName) (by rfl) m_NoName (by first | exact rfl | exact ⟨_, rfl⟩)) pa_nil))) (pa_cons (pe_callB (call_isX K) (by rfl) (by assumption) (by decide +kernel) (pa_cons (pv 0) (pa_cons (pe_glob (v := .ref c.NoMode) (by rfl) m_NoMode (by first | exact rfl | exact ⟨_, rfl⟩)) pa_nil))) pa_nil))))))
      (pss_cons (ps_set (i := 1) nd rfl (Or.inl rfl) (pe_op op_cat (pv 1) (pe_lst (pa_cons (pe_callB (call_isX K) (by rfl) (by assumption) (by decide +kernel) (pa_cons (pv 0) (pa_cons (pe_glob (v := .ref c.NoTime) (by rfl) m_NoTime (by first | exact rfl | exact ⟨_, rfl⟩)) pa_nil))) (pa_cons (pe_callB (call_isX K) (by rfl) (by assumption) (by decide +kernel) (pa_cons (pv 0) (pa_cons (pe_glob (v := .ref c.NoSize) (by rfl) m_NoSize (by first | exact rfl | exact ⟨_, rfl⟩)) pa_nil))) (pa_cons (pe_callB (call_isX K) (by rfl) (by assumption) (by decide +kernel) (pa_cons (pv 0) (pa_cons (pe_glob (v := .ref c.NoPieces) (by rfl) m_NoPieces (by first | exact rfl | exact ⟨_, rfl⟩)) pa_nil))) pa_nil))))))
      (pss_cons (ps_set (i := 1) nd rfl (Or.inl rfl) (pe_op op_cat (pv 1) (pe_lst (pa_cons (pe_callB (call_isX K) (by rfl) (by assumption) (by decide +kernel) (pa_cons (pv 0) (pa_cons (pe_glob (v := .ref c.NoBlock) (by rfl) m_NoBlock (by first | exact rfl | exact ⟨_, rfl⟩)) pa_nil))) (pa_cons (pe_callB (call_isX K) (by rfl) (by assumption) (by decide +kernel) (pa_cons (pv 0) (pa_cons (pe_glob (v := .ref c.NoMember) (by rfl) m_NoMember (by first | exact rfl | exact ⟨_, rfl⟩)) pa_nil))) (pa_cons (pe_callB (call_isX K) (by rfl) (by assumption) (by decide +kernel) (pa_cons (pv 0) (pa_cons (pe_glob (v := .ref c.TooMany) (by rfl) m_TooMany (by first | exact rfl | exact ⟨_, rfl⟩)) pa_nil))) pa_nil))))))
      (pss_cons (ps_set (i := 1) nd rfl (Or.inl rfl) (pe_op op_cat (pv 1) (pe_lst (pa_cons (pe_callB (call_isX K) (by rfl) (by assumption) (by decide +kernel) (pa_cons (pv 0) (pa_cons (pe_glob (v := .ref c.Closed) (by rfl) m_Closed (by first | exact rfl | exact ⟨_, rfl⟩)) pa_nil))) (pa_cons (pe_callB (call_isX K) (by rfl) (by assumption) (by decide +kernel) (pa_cons (pv 0) (pa_cons (pe_glob (v := .ref c.NoOffset) (by rfl) m_NoOffset (by first | exact rfl | exact ⟨_, rfl⟩)) pa_nil))) (pa_cons (pe_callB (call_isX K) (by rfl) (by assumption) (by decide +kernel) (pa_cons (pv 0) (pa_cons (pe_glob (v := .ref c.Torn) (by rfl) m_Torn (by first | exact rfl | exact ⟨_, rfl⟩)) pa_nil))) pa_nil))))))
      (pss_cons (ps_set (i := 1) nd rfl (Or.inl rfl) (pe_op op_cat (pv 1) (pe_lst (pa_cons (pe_callB (call_isX K) (by rfl) (by assumption) (by decide +kernel) (pa_cons (pv 0) (pa_cons (pe_glob (v := .ref c.Wrong) (by rfl) m_Wrong (by first | exact rfl | exact ⟨_, rfl⟩)) pa_nil))) (pa_cons (pe_callB (call_isX K) (by rfl) (by assumption) (by decide +kernel) (pa_cons (pv 0) (pa_cons (pe_glob (v := .ref c.NoHouse) (by rfl) m_NoHouse (by first | exact rfl | exact ⟨_, rfl⟩)) pa_nil))) (pa_cons (pe_callB (call_isX K) (by rfl) (by assumption) (by decide +kernel) (pa_cons (pv 0) (pa_cons (pe_glob (v := .ref c.NoPath) (by rfl) m_NoPath (by first | exact rfl | exact ⟨_, rfl⟩)) pa_nil))) pa_nil))))))
      (pss_cons (ps_set (i := 1) nd rfl (Or.inl rfl) (pe_op op_cat (pv 1) (pe_lst (pa_cons (pe_callB (call_isX K) (by rfl) (by assumption) (by decide +kernel) (pa_cons (pv 0) (pa_cons (pe_glob (v := .ref c.Refused) (by rfl) m_Refused (by first | exact rfl | exact ⟨_, rfl⟩)) pa_nil))) (pa_cons (pe_callB (call_isX K) (by rfl) (by assumption) (by decide +kernel) (pa_cons (pv 0) (pa_cons (pe_glob (v := .ref c.NoIndex) (by rfl) m_NoIndex (by first | exact rfl | exact ⟨_, rfl⟩)) pa_nil))) (pa_cons (pe_callB (call_isX K) (by rfl) (by assumption) (by decide +kernel) (pa_cons (pv 0) (pa_cons (pe_glob (v := .ref c.NoEdit) (by rfl) m_NoEdit (by first | exact rfl | exact ⟨_, rfl⟩)) pa_nil))) pa_nil))))))
      (pss_one (ps_ret (pe_op op_cat (pv 1) (pe_lst (pa_cons (pe_callB (call_isX K) (by rfl) (by assumption) (by decide +kernel) (pa_cons (pv 0) (pa_cons (pe_glob (v := .ref c.NoText) (by rfl) m_NoText (by first | exact rfl | exact ⟨_, rfl⟩)) pa_nil))) (pa_cons (pe_callB (call_isX K) (by rfl) (by assumption) (by decide +kernel) (pa_cons (pv 0) (pa_cons (pe_glob (v := .ref c.NoCommand) (by rfl) m_NoCommand (by first | exact rfl | exact ⟨_, rfl⟩)) pa_nil))) pa_nil)))))))))))), ?_⟩
    repeat (first
      | walk_at "rd2"
      | refine r_isX E0 (by walk_at "xo") hC (by simp [Es.all]) ?_)
    exact q _ _ (by walk_at "sm") upd_same
end
end Th
namespace Th
open PySem PySem.Spec PyProof.Rows L2
local macro_rules | `(tactic| walk_at "lk") => `(tactic| first
  | assumption
  | exact upd_same
  | (refine upd_old (by assumption) ?_; walk_at "lk")
  | (refine upd_diff (by assumption) ?_; walk_at "lk")
  | (refine upd_diff (Ne.symm (by assumption)) ?_; walk_at "lk"))
local macro_rules | `(tactic| walk_at "cnd") => `(tactic| first
  | omega
  | (refine ⟨by omega, by omega⟩)
  | (refine ⟨by omega, by omega, by omega⟩)
  | (refine .inl ⟨by omega, by omega⟩)
  | (refine .inr ⟨by omega, by omega⟩)
  | (exact (show CPow _ _ from ⟨by decide, by decide, by omega⟩))
  | decide +kernel
  | (unfold CMulW; decide +kernel)
  | (exact wide_div (b := 64) (by omega) (by omega) (by decide) (by decide)))
local macro_rules | `(tactic| walk_at "rd1") => `(tactic| first
  | (with_reducible refine r_seq ?_)
  | (with_reducible refine r_asg ?_)
  | (with_reducible refine r_ret ?_)
  | (with_reducible refine r_if ?_)
  | (with_reducible refine r_gname ?_)
  | ((with_reducible refine' r_var ?hv ?_); (case hv => exact rfl))
  | (with_reducible refine r_c ?_)
  | (with_reducible refine r_op ?_)
  | (with_reducible refine r_I0 ?_)
  | ((with_reducible refine r_I ?hc ?_); (case hc => walk_at "cnd"))
  | (with_reducible refine r_test ?_)
  | (with_reducible refine r_tB ?_)
  | (with_reducible refine r_bl ?_)
  | (with_reducible refine r_not ?_)
  | (with_reducible refine r_and ?_)
  | (with_reducible refine r_or ?_)
  | (with_reducible refine r_ifE ?_)
  | (with_reducible refine r_notV ?_)
  | (with_reducible refine r_andV ?_)
  | (with_reducible refine r_orV ?_)
  | (with_reducible refine r_chain ?_)
  | (with_reducible refine r_cb ?_)
  | (with_reducible refine r_call ?_)
  | (with_reducible refine r_callN ?_)
  | (with_reducible refine r_nil ?_)
  | (with_reducible refine r_cons ?_)
  | ((with_reducible refine r_lst ?_))
  | ((with_reducible refine r_tup ?_))
  | ((with_reducible refine r_new ?_ ?_); (exact Nat.le_of_ble_eq_true rfl); (intro p hp))
  | (with_reducible refine r_rInt1 ?_)
  | (with_reducible refine r_rIntB ?_)
  | (with_reducible refine r_rAbs ?_)
  | (with_reducible refine r_rMin2 ?_)
  | (with_reducible refine r_rMax2 ?_)
  | ((with_reducible refine r_rLenZ ?hz ?_); (case hz => first | assumption | exact Nat.le_of_ble_eq_true rfl | (refine Nat.le_trans ?_ (by decide : 100000 ≤ sizeLine); omega)))
  | ((with_reducible refine r_addZ ?hz ?_); (case hz => (refine Nat.le_trans ?_ (by decide : 100000 ≤ sizeLine); first | omega | (simp only [Str.length] at *; simp; omega))))
  | ((with_reducible refine r_mulZ ?hz ?h0 ?h1 ?_); (case hz => first | omega | exact Nat.le_of_ble_eq_true rfl); (case h0 => omega); (case h1 => omega))
  | ((with_reducible refine' r_rLenQ ?h1 ?_); (case h1 => first | (exact .inl (by assumption)) | (exact .inr (by assumption)) | (exact .inl (SqL.of (by walk_at "lk"))) | (exact .inr (SqT.of (by walk_at "lk")))))
  | ((with_reducible refine r_eq ?hs ?_); (case hs => exact rfl))
  | ((with_reducible refine r_ne ?hs ?_); (case hs => exact rfl))
  | (with_reducible refine r_inC ?_)
  | ((with_reducible refine' r_cat ?h1 ?h2 ?h3 ?_); (case h1 => walk_at "lk"); (case h2 => walk_at "lk"); (case h3 => exact Nat.le_of_ble_eq_true rfl); (intro p hp))
  | ((with_reducible refine' r_rep ?h1 ?h2 ?h3 ?h4 ?_); (case h1 => walk_at "lk"); (case h2 => omega); (case h3 => omega); (case h4 => exact Nat.le_of_ble_eq_true rfl); (intro p hp))
  | ((with_reducible refine' r_append ?h1 ?h2 ?_); (case h1 => walk_at "lk"); (case h2 => first | exact (show _ + 1 ≤ sizeLine from Nat.le_of_ble_eq_true rfl) | exact Nat.lt_of_le_of_lt (by omega : _ ≤ 100000) (by decide)))
  | (with_reducible refine r_bm ?_)
  | ((with_reducible refine' r_tyL ?h1 ?_); (case h1 => walk_at "lk"))
  | ((with_reducible refine' r_ixL ?h1 ?h2 ?_); (case h1 => first | assumption | exact SqL.of (by walk_at "lk")); (case h2 => exact rfl))
  | ((with_reducible refine' r_ixT ?h1 ?h2 ?_); (case h1 => first | assumption | exact SqT.of (by walk_at "lk")); (case h2 => exact rfl))
  | (with_reducible refine r_gsub ?_)
  | ((with_reducible refine' r_setL ?h1 ?h2 ?_); (case h1 => walk_at "lk"); (case h2 => exact rfl))
  | (with_reducible refine r_un ?_)
  | (with_reducible refine r_neg ?_)
  | (with_reducible refine r_iteT ?_)
  | (with_reducible refine r_iteNT ?_)
  | (with_reducible refine r_iteNF ?_)
  | (with_reducible refine r_iteF ?_)
  | (with_reducible refine r_next ?_)
  | (with_reducible refine r_drop ?_)
  | (with_reducible refine r_cont ?_)
  | (with_reducible refine r_brk ?_))
local macro_rules | `(tactic| walk_at "ty") => `(tactic| first
  | assumption
  | exact .base (.int _)
  | exact .base (.str _)
  | exact .base (.bl _)
  | exact .base .non
  | exact .byt _
  | exact .base (.lst (by walk_at "lk"))
  | exact .base (.tup (by walk_at "lk")))
local macro_rules | `(tactic| walk_at "rd2") => `(tactic| first
  | walk_at "rd1"
  | ((with_reducible refine' r_isi true ?ht ?hk ?_); (case ht => walk_at "ty"); (case hk => first | assumption | decide +kernel))
  | ((with_reducible refine' r_isi false ?ht ?hk ?_); (case ht => walk_at "ty"); (case hk => first | assumption | decide +kernel))
  | ((with_reducible refine' r_isiT2 true true ?hT ?ht ?hk ?hk2 ?_); (case hT => walk_at "lk"); (case ht => walk_at "ty"); (case hk => decide +kernel); (case hk2 => decide +kernel))
  | ((with_reducible refine' r_isiT2 true false ?hT ?ht ?hk ?hk2 ?_); (case hT => walk_at "lk"); (case ht => walk_at "ty"); (case hk => decide +kernel); (case hk2 => decide +kernel))
  | ((with_reducible refine' r_isiT2 false true ?hT ?ht ?hk ?hk2 ?_); (case hT => walk_at "lk"); (case ht => walk_at "ty"); (case hk => decide +kernel); (case hk2 => decide +kernel))
  | ((with_reducible refine' r_isiT2 false false ?hT ?ht ?hk ?hk2 ?_); (case hT => walk_at "lk"); (case ht => walk_at "ty"); (case hk => decide +kernel); (case hk2 => decide +kernel))
  | (with_reducible refine r_iteNT ?_)
  | ((show (if (!true) = true then _ else _)); refine r_iteNT ?_)
  | (with_reducible refine r_r1 ?_)
  | (with_reducible refine r_maks ?_)
  | (with_reducible refine r_sfld ?_)
  | ((with_reducible refine' r_sfldE ?h1 ?h2 ?h3 ?h4 ?_); (case h1 => walk_at "lk"); (case h2 => assumption); (case h3 => assumption); (case h4 => exact (show _ + 1 ≤ 1000 from Nat.le_of_ble_eq_true rfl)))
  | (with_reducible refine r_fld ?_)
  | (with_reducible refine r_join ?_)
  | (with_reducible refine r_jcons ?_)
  | (with_reducible refine r_jnil ?_)
  | ((with_reducible refine r_rLenY ?hz ?_); (case hz => first | assumption | (refine Nat.le_trans ?_ (by decide : 100000 ≤ sizeLine); omega)))
  | (with_reducible refine r_par ?_)
  | (with_reducible refine r_pair ?_)
  | (with_reducible refine r_par3 ?_)
  | (with_reducible refine r_trip ?_)
  | ((with_reducible refine' r_gtup ?h1 ?h2 ?_); (case h1 => first | assumption | exact SqT.of (by walk_at "lk")); (case h2 => exact rfl))
  | (with_reducible refine r_gcons ?_)
  | (with_reducible refine r_gnil ?_)
  | ((with_reducible refine' r_slL ?h1 ?_); (case h1 => first | assumption | exact SqL.of (by walk_at "lk")); (intro p hp))
  | (with_reducible refine r_iTup ?_)
  | ((with_reducible refine' r_tupE ?h1 ?_); (case h1 => first | assumption | exact SqT.of (by walk_at "lk")))
  | (with_reducible refine r_m1 ?_)
  | (with_reducible refine r_isZ ?_)
  | (with_reducible refine r_sl ?_)
  | (with_reducible refine r_noPart ?_)
  | (with_reducible refine r_part ?_)
  | (with_reducible refine r_partE ?_)
  | ((with_reducible refine r_slS ?hz ?_); (case hz => first | assumption | (refine Nat.le_trans ?_ (by decide : 100000 ≤ sizeLine); omega)))
  | ((with_reducible refine' r_inT ?h1 ?h2 ?h3 ?_); (case h1 => first | assumption | (exact SqT.of (by walk_at "lk"))); (case h2 => exact rfl); (case h3 => exact rfl))
  | ((with_reducible refine' r_inL ?h1 ?h2 ?h3 ?_); (case h1 => first | assumption | (exact SqL.of (by walk_at "lk"))); (case h2 => exact rfl); (case h3 => exact rfl))
  | (with_reducible refine r_lc ?_)
  | (with_reducible refine r_for ?_)
  | (with_reducible refine r_iStr ?_)
  | (with_reducible refine r_strE ?_)
  | (with_reducible refine r_iList ?_)
  | ((with_reducible refine' r_listE ?h1 ?_); (case h1 => first | assumption | exact SqL.of (by walk_at "lk")))
  | (with_reducible refine r_iRng1 ?_)
  | ((with_reducible refine' r_rngE ?h0 ?h1 ?_); (case h0 => first | omega | (split <;> omega)); (case h1 => first | omega | (split <;> omega))))
local macro_rules | `(tactic| walk_at "rd") => `(tactic| (repeat walk_at "rd2"))
local macro_rules | `(tactic| walk_at "st") => `(tactic| (repeat (first
  | (with_reducible refine r_gname ?_)
  | (with_reducible refine r_next ?_)
  | (with_reducible refine r_seq ?_)
  | (with_reducible refine r_asg ?_)
  | (with_reducible refine r_ret ?_)
  | (with_reducible refine r_for ?_)
  | (with_reducible refine r_iRng1 ?_)
  | (with_reducible refine r_iList ?_)
  | (with_reducible refine r_cons ?_)
  | (with_reducible refine r_par ?_)
  | (with_reducible refine r_par3 ?_))))
/-! ### the fields -/
theorem op_eqDK {X : Cx} (K : PySem.W.Frag) (hu : X.A.units + 64 < cLine) (h : X.K = K := by rfl) : OpR X (compareOp .Eq) (rEqD K) := h ▸ op_eqD hu
def tMvs (K : PySem.W.Frag) (sd : Bool) (iv io : Nat) : Nat → TA
  | 0 => tNil
  | n + 1 => tCons (tMv K sd iv io) (tMvs K sd iv io n)
theorem Two.same {K : PySem.W.Frag} {iv io : Nat} {σ : L2.St} {H H' : Hp} {v o : V} {d d' : PyData} (e : Same H H') (h : Two K iv io σ H v o d d') : Two K iv io σ H' v o d d' := ⟨h.1, h.2.1, Dp.sameD e h.2.2.2.1 h.2.2.1, h.2.2.2.1, Dp.sameD e h.2.2.2.2.2 h.2.2.2.2.1, h.2.2.2.2.2⟩
theorem dv_if {d d' : PyData} {sd : Bool} (h : DV d) (h' : DV d') : DV (if sd = true then d' else d) := by cases sd <;> assumption
theorem r_mvs {K : PySem.W.Frag} {sd : Bool} {iv io : Nat} {σ : L2.St} {v o : V} {d d' : PyData} : ∀ {n : Nat} {H : Hp} {Q : List V → Hp → Prop}, Two K iv io σ H v o d d' → (∀ vs H', Same H H' → vs.length = n → (∀ x ∈ vs, Dp K H' x (if sd = true then d' else d)) → Q vs H') → tMvs K sd iv io n σ H Q
  | 0, H, Q, h, k => k [] H (Same.refl _) rfl (fun _ h => nomatch h)
  | n + 1, H, Q, h, k => ⟨v, o, d, d', h, fun x H1 e1 hx => r_mvs (h.same e1) fun vs H2 e2 hl hv => k (x :: vs) H2 (e1.trans e2) (by rw [List.length_cons, hl]) (fun y hy => by
      rcases List.mem_cons.mp hy with rfl | hy
      · exact Dp.sameD e2 (dv_if h.2.2.2.1 h.2.2.2.2.2) hx
      · exact hv y hy)⟩
/-- a list all of whose items are the value d -/
def FL (K : PySem.W.Frag) (H : Hp) (L : Addr) (d : PyData) (N : Nat) : Prop := ∃ vs, H L = some (.lst vs) ∧ vs.length = N ∧ ∀ x ∈ vs, Dp K H x d
theorem FL.same {K : PySem.W.Frag} {H H' : Hp} {L : Addr} {d : PyData} {N : Nat} (hd : DV d) (e : Same H H') (h : FL K H L d N) : FL K H' L d N := by
  obtain ⟨vs, h1, h2, h3⟩ := h
  exact ⟨vs, e _ _ h1, h2, fun x hx => Dp.sameD e hd (h3 x hx)⟩
theorem st_first {K : PySem.W.Frag} {sd : Bool} {iv io i n : Nat} {σ : L2.St} {H : Hp} {D : Ends} {v o : V} {d d' : PyData} (h : Two K iv io σ H v o d d') (hn : n ≤ 100) (k : ∀ L H', Same H H' → H L = none → FL K H' L (if sd = true then d' else d) n → D.nx (σ.set i (some (.ref L))) H') :
    tAsg (tLst (tMvs K sd iv io n)) (gName i) D σ H := by
  refine r_asg ?_
  refine r_lst ?_
  refine r_mvs h fun vs H1 e1 hl hv => ⟨Nat.le_trans (hl ▸ hn) (by decide), fun p hp => ?_⟩
  refine r_gname ?_
  exact k p _ (e1.trans (same_new hp)) (Same.free e1 hp) ⟨vs, upd_same, hl, fun x hx => Dp.sameD (same_new hp) (dv_if h.2.2.2.1 h.2.2.2.2.2) (hv x hx)⟩
theorem st_more {K : PySem.W.Frag} {sd : Bool} {iv io i n N : Nat} {L : Addr} {σ : L2.St} {H : Hp} {D : Ends} {v o : V} {d d' : PyData} (h : Two K iv io σ H v o d d') (hi : σ[i]? = some (some (.ref L))) (hf : FL K H L (if sd = true then d' else d) N) (hn : n + N ≤ 100)
    (k : ∀ L H', Same H H' → FL K H' L (if sd = true then d' else d) (N + n) → D.nx (σ.set i (some (.ref L))) H') : tAsg (tOp rCat (tVar i) (tLst (tMvs K sd iv io n))) (gName i) D σ H := by
  refine r_asg ?_
  refine r_op ?_
  refine r_var hi ?_
  refine r_lst ?_
  refine r_mvs h fun vs H1 e1 hl hv => ⟨Nat.le_trans (by omega : vs.length ≤ 100) (by decide), fun p hp => ?_⟩
  have hd := dv_if (sd := sd) h.2.2.2.1 h.2.2.2.2.2
  obtain ⟨us, h1, h2, h3⟩ := hf.same hd (e1.trans (same_new (o := .lst vs) hp))
  refine r_cat h1 upd_same (Nat.le_trans (by omega : us.length + vs.length ≤ 100) (by decide)) (fun q hq => ?_)
  refine r_gname ?_
  refine k q _ ((e1.trans (same_new hp)).trans (same_new hq)) ⟨us ++ vs, upd_same, by rw [List.length_append]; omega, fun x hx => ?_⟩
  rcases List.mem_append.mp hx with hx | hx
  · exact Dp.sameD (same_new hq) hd (h3 x hx)
  · exact Dp.sameD ((same_new hp).trans (same_new hq)) hd (hv x hx)
theorem Dp.off {K : PySem.W.Frag} {H0 H : Hp} {M : Addr} {w : HO} {v : V} {d : PyData} (hd : DV d) (h : Dp K H0 v d) (hM : H0 M = none) (e : Same H0 H) : Dp K (upd H M w) v d := by
  cases h with
  | non => exact .non
  | bl b => exact .bl b
  | int i => exact .int i
  | str x => exact .str x
  | @lst p xs ds h1 h2 =>
    refine .lst ?_ (DpAll.scal hd.1 h2)
    rcases h1 with (h | ⟨o, h⟩) | h
    · exact .inl (.inl (by rw [upd_ne (ne_of_none h hM)]; exact e _ _ h))
    · exact .inl (.inr ⟨o, by rw [upd_ne (ne_of_none h hM)]; exact e _ _ h⟩)
    · exact .inr h
  | @tup p xs ds h1 h2 =>
    refine .tup ?_ (DpAll.scal hd.1 h2)
    rcases h1 with (h | ⟨o, h⟩) | h
    · exact .inl (.inl (by rw [upd_ne (ne_of_none h hM)]; exact e _ _ h))
    · exact .inl (.inr ⟨o, by rw [upd_ne (ne_of_none h hM)]; exact e _ _ h⟩)
    · exact .inr h
theorem at_ne2 {H : Hp} {a b : Addr} {o u : HO} (ha : H a = some o) (hb : H b = some u) (d : u ≠ o) : b ≠ a := fun z => by
  rw [z, ha] at hb
  exact d (Option.some.inj hb).symm
theorem Dp.app {K : PySem.W.Frag} {H : Hp} {M : Addr} {w : HO} {y x : V} {ms : List V} {d : PyData} (hd : DV d) (hM : H M = some (.lst (y :: ms))) (hy : Dp K H y d) (h : Dp K H x d) : Dp K (upd H M w) x d := by
  cases h with
  | non => exact .non
  | bl b => exact .bl b
  | int i => exact .int i
  | str x => exact .str x
  | @lst p xs ds h1 h2 =>
    refine .lst ?_ (DpAll.scal hd.1 h2)
    rcases h1 with (h | ⟨o, h⟩) | h
    · by_cases e : p = M
      · exfalso
        subst e
        rw [hM] at h
        injection h with h
        injection h with h
        subst h
        cases h2 with
        | cons h3 _ =>
          cases hy with
          | lst _ _ =>
            have := hd.1
            cases h3 <;> simp [scalD] at this
      · exact .inl (.inl (by rw [upd_ne e]; exact h))
    · exact .inl (.inr ⟨o, by rw [upd_ne (at_ne2 hM h (fun z => nomatch z))]; exact h⟩)
    · exact .inr h
  | @tup p xs ds h1 h2 =>
    refine .tup ?_ (DpAll.scal hd.1 h2)
    rcases h1 with (h | ⟨o, h⟩) | h
    · exact .inl (.inl (by rw [upd_ne (at_ne2 hM h (fun z => nomatch z))]; exact h))
    · exact .inl (.inr ⟨o, by rw [upd_ne (at_ne2 hM h (fun z => nomatch z))]; exact h⟩)
    · exact .inr h
theorem sd_d {d d' : PyData} (h : DV d) : DV (if false = true then d' else d) := h
theorem fields_end {K : PySem.W.Frag} {H : Hp} {L M : Addr} {vs ns : List V} {v o : V} {d d' : PyData} {D : Ends} {w4 : Option V} (hd : DV d) (hd' : DV d') (lv : vs.length ≤ 100) (lm : ns.length ≤ 100) (V5 : H L = some (.lst vs)) (V6 : H M = some (.lst ns)) (V1 : ∀ y ∈ vs, Dp K H y d) (V2 : ∀ y ∈ ns, Dp K H y d') (V3 : Dp K H v d) (V4 : Dp K H o d')
    (s1 : SeqAt.shaped d = true) (q1 : PyData.eqv d d = true) (s2 : SeqAt.shaped d' = true) (q2 : PyData.eqv d' d' = true) (q : ∀ H', Same H H' → D.rt (.bl true) H') :
    tRet (tAndV (tCB (rAll K) (tCons (tLc (iList K (tVar 2)) (gName 4) tYes (tOp (rEqD K) (tVar 4) (tVar 0)) [4]) tNil)) (tCB (rAll K) (tCons (tLc (iList K (tVar 3)) (gName 4) tYes (tOp (rEqD K) (tVar 4) (tVar 1)) [4]) tNil))) D [some v, some o, some (.ref L), some (.ref M), w4] H := by
  have W5 : SqL K H L vs := SqL.of V5
  refine r_ret ?_
  refine r_andV ?_
  walk_at "rd"
  intro D1 hD
  refine lc_map (cs := vs) (enc := id) (f := fun _ => V.bl true) (by rw [List.map_id]; exact walk_list) hD (Nat.lt_of_le_of_lt lv (by decide)) (fun H' e => SqL.of (e _ _ V5)) (fun x => rfl) ?_ ?_
  · intro y hy H' e Q2 k2
    walk_at "rd"
    refine ⟨d, d, Dp.sameD e hd (V1 y hy), Dp.sameD e hd V3, s1, s1, ?_⟩
    rw [q1]
    exact k2 _ (Same.refl _)
  · intro H16 e16 hb
    have e16' : Same H H16 := e16
    walk_at "rd"
    refine r_all (bs := vs.map fun _ => true) (by rw [List.map_map]; exact SqL.of hb) ?_
    rw [show (vs.map fun _ => true).all id = true by simp]
    have W6 : SqL K H16 M ns := SqL.of (e16' _ _ V6)
    walk_at "rd"
    intro D2 hD2
    refine lc_map (cs := ns) (enc := id) (f := fun _ => V.bl true) (by rw [List.map_id]; exact walk_list) hD2 (Nat.lt_of_le_of_lt lm (by decide)) (fun H' e => SqL.of (e _ _ (e16' _ _ V6))) (fun x => rfl) ?_ ?_
    · intro y hy H' e Q2 k2
      walk_at "rd"
      refine ⟨d', d', Dp.sameD (e16'.trans e) hd' (V2 y hy), Dp.sameD (e16'.trans e) hd' V4, s2, s2, ?_⟩
      rw [q2]
      exact k2 _ (Same.refl _)
    · intro H17 e17 hb2
      walk_at "rd"
      refine r_all (bs := ns.map fun _ => true) (by rw [List.map_map]; exact SqL.of hb2) ?_
      rw [show (ns.map fun _ => true).all id = true by simp]
      exact q _ (e16'.trans e17)
def spFields (K : PySem.W.Frag) : Sp := fun vs H Q _ => ∃ v o d d', vs = [v, o] ∧ Dp K H v d ∧ DV d ∧ Dp K H o d' ∧ DV d' ∧ SeqAt.shaped d = true ∧ PyData.eqv d d = true ∧ SeqAt.shaped d' = true ∧ PyData.eqv d' d' = true ∧ ∀ H', Same H H' → Q (.bl true) H'
section
variable {P : Program} {w : World} {K : PySem.W.Frag} {mg : Str → Option Value} {base : Heap}
theorem ok_fields {f : Addr} {fd : FuncData} {k : Nat} {c : Es} (F : Fun K "_law_fields_right" "_law_fields_right" s__law_fields_right f fd) (m1 : mg "all" = none)
    (m_NoBlob : mg "NoBlob" = some (.ref c.NoBlob)) (m_NoData : mg "NoData" = some (.ref c.NoData)) (m_NoName : mg "NoName" = some (.ref c.NoName)) (m_NoMode : mg "NoMode" = some (.ref c.NoMode)) (m_NoTime : mg "NoTime" = some (.ref c.NoTime)) (m_NoSize : mg "NoSize" = some (.ref c.NoSize)) (m_NoPieces : mg "NoPieces" = some (.ref c.NoPieces)) (m_NoBlock : mg "NoBlock" = some (.ref c.NoBlock)) (m_NoMember : mg "NoMember" = some (.ref c.NoMember)) (m_TooMany : mg "TooMany" = some (.ref c.TooMany)) (m_NoOffset : mg "NoOffset" = some (.ref c.NoOffset)) (m_Torn : mg "Torn" = some (.ref c.Torn)) (m_Wrong : mg "Wrong" = some (.ref c.Wrong)) (m_NoHouse : mg "NoHouse" = some (.ref c.NoHouse)) (m_NoPath : mg "NoPath" = some (.ref c.NoPath)) (m_Refused : mg "Refused" = some (.ref c.Refused)) (m_NoIndex : mg "NoIndex" = some (.ref c.NoIndex)) (m_NoText : mg "NoText" = some (.ref c.NoText)) (m_NoCommand : mg "NoCommand" = some (.ref c.NoCommand))
    (e_NoBlob : ME1 P w K mg base 3 "NoBlob" c.NoBlob "numbers") (e_NoData : ME1 P w K mg base 3 "NoData" c.NoData "thing") (e_NoName : ME1 P w K mg base 3 "NoName" c.NoName "name") (e_NoMode : ME1 P w K mg base 3 "NoMode" c.NoMode "mode") (e_NoTime : ME1 P w K mg base 3 "NoTime" c.NoTime "time") (e_NoSize : ME1 P w K mg base 3 "NoSize" c.NoSize "size") (e_NoPieces : ME1 P w K mg base 3 "NoPieces" c.NoPieces "pieces") (e_NoBlock : ME1 P w K mg base 3 "NoBlock" c.NoBlock "thing") (e_NoMember : ME1 P w K mg base 3 "NoMember" c.NoMember "thing") (e_TooMany : ME1 P w K mg base 3 "TooMany" c.TooMany "limit") (e_NoOffset : ME1 P w K mg base 3 "NoOffset" c.NoOffset "offset") (e_Torn : ME1 P w K mg base 3 "Torn" c.Torn "offset") (e_NoHouse : ME1 P w K mg base 3 "NoHouse" c.NoHouse "given") (e_NoPath : ME1 P w K mg base 3 "NoPath" c.NoPath "path") (e_NoIndex : ME1 P w K mg base 3 "NoIndex" c.NoIndex "index") (e_NoText : ME1 P w K mg base 3 "NoText" c.NoText "text") (e_NoCommand : ME1 P w K mg base 3 "NoCommand" c.NoCommand "command") (e_Wrong : ME2 P w K mg base 3 "Wrong" c.Wrong "offset" "field") (e_Refused : ME2 P w K mg base 3 "Refused" c.Refused "index" "word") : FnOk P w K mg base CX0 (k + 5) f fd ["_law_value", "_law_other"] (spFields K) := by
  refine F.ok sc__law_fields_right (fun vs H Q E h => ?_) (fun cdv A outer s H vs Q E hr h => ?_)
  · obtain ⟨v, o, d, d', rfl, _⟩ := h
    rfl
  · obtain ⟨v, o, d, d', rfl, hv, hd, hw, hd', s1, q1, s2, q2, q⟩ := h
    have hu := hu_of hr
    have hu64 := hr.units
    have nd := sc__law_fields_right.nd
    refine ⟨_, (pss_cons (ps_set (i := 2) nd rfl (Or.inl rfl) (pe_lst (pa_cons (pe_v1 K e_NoBlob hr (by omega) (by rfl) (pa_cons (pv 0) pa_nil) 1) (pa_cons (pe_v1k K e_NoBlob hr (by omega) (by rfl) (pk_cons (pv 0) pk_nil) 1) (pa_cons (pe_v1 K e_NoData hr (by omega) (by rfl) (pa_cons (pv 0) pa_nil) 1) (pa_cons (pe_v1k K e_NoData hr (by omega) (by rfl) (pk_cons (pv 0) pk_nil) 1) pa_nil))))))
      (pss_cons (ps_set (i := 2) nd rfl (Or.inl rfl) (pe_op op_cat (pv 2) (pe_lst (pa_cons (pe_v1 K e_NoName hr (by omega) (by rfl) (pa_cons (pv 0) pa_nil) 1) (pa_cons (pe_v1k K e_NoName hr (by omega) (by rfl) (pk_cons (pv 0) pk_nil) 1) (pa_cons (pe_v1 K e_NoMode hr (by omega) (by rfl) (pa_cons (pv 0) pa_nil) 1) (pa_cons (pe_v1k K e_NoMode hr (by omega) (by rfl) (pk_cons (pv 0) pk_nil) 1) pa_nil)))))))
      (pss_cons (ps_set (i := 2) nd rfl (Or.inl rfl) (pe_op op_cat (pv 2) (pe_lst (pa_cons (pe_v1 K e_NoTime hr (by omega) (by rfl) (pa_cons (pv 0) pa_nil) 1) (pa_cons (pe_v1k K e_NoTime hr (by omega) (by rfl) (pk_cons (pv 0) pk_nil) 1) (pa_cons (pe_v1 K e_NoSize hr (by omega) (by rfl) (pa_cons (pv 0) pa_nil) 1) (pa_cons (pe_v1k K e_NoSize hr (by omega) (by rfl) (pk_cons (pv 0) pk_nil) 1) pa_nil)))))))
      (pss_cons (ps_set (i := 2) nd rfl (Or.inl rfl) (pe_op op_cat (pv 2) (pe_lst (pa_cons (pe_v1 K e_NoPieces hr (by omega) (by rfl) (pa_cons (pv 0) pa_nil) 1) (pa_cons (pe_v1k K e_NoPieces hr (by omega) (by rfl) (pk_cons (pv 0) pk_nil) 1) (pa_cons (pe_v1 K e_NoBlock hr (by omega) (by rfl) (pa_cons (pv 0) pa_nil) 1) pa_nil))))))
      (pss_cons (ps_set (i := 2) nd rfl (Or.inl rfl) (pe_op op_cat (pv 2) (pe_lst (pa_cons (pe_v1k K e_NoBlock hr (by omega) (by rfl) (pk_cons (pv 0) pk_nil) 1) (pa_cons (pe_v1 K e_NoMember hr (by omega) (by rfl) (pa_cons (pv 0) pa_nil) 1) (pa_cons (pe_v1k K e_NoMember hr (by omega) (by rfl) (pk_cons (pv 0) pk_nil) 1) pa_nil))))))
      (pss_cons (ps_set (i := 2) nd rfl (Or.inl rfl) (pe_op op_cat (pv 2) (pe_lst (pa_cons (pe_v1 K e_TooMany hr (by omega) (by rfl) (pa_cons (pv 0) pa_nil) 1) (pa_cons (pe_v1k K e_TooMany hr (by omega) (by rfl) (pk_cons (pv 0) pk_nil) 1) (pa_cons (pe_v1 K e_NoOffset hr (by omega) (by rfl) (pa_cons (pv 0) pa_nil) 1) pa_nil))))))
      (pss_cons (ps_set (i := 2) nd rfl (Or.inl rfl) (pe_op op_cat (pv 2) (pe_lst (pa_cons (pe_v1k K e_NoOffset hr (by omega) (by rfl) (pk_cons (pv 0) pk_nil) 1) (pa_cons (pe_v1 K e_Torn hr (by omega) (by rfl) (pa_cons (pv 0) pa_nil) 1) (pa_cons (pe_v1k K e_Torn hr (by omega) (by rfl) (pk_cons (pv 0) pk_nil) 1) pa_nil))))))
      (pss_cons (ps_set (i := 2) nd rfl (Or.inl rfl) (pe_op op_cat (pv 2) (pe_lst (pa_cons (pe_v1 K e_NoHouse hr (by omega) (by rfl) (pa_cons (pv 0) pa_nil) 1) (pa_cons (pe_v1k K e_NoHouse hr (by omega) (by rfl) (pk_cons (pv 0) pk_nil) 1) (pa_cons (pe_v1 K e_NoPath hr (by omega) (by rfl) (pa_cons (pv 0) pa_nil) 1) (pa_cons (pe_v1k K e_NoPath hr (by omega) (by rfl) (pk_cons (pv 0) pk_nil) 1) pa_nil)))))))
      (pss_cons (ps_set (i := 2) nd rfl (Or.inl rfl) (pe_op op_cat (pv 2) (pe_lst (pa_cons (pe_v1 K e_NoIndex hr (by omega) (by rfl) (pa_cons (pv 0) pa_nil) 1) (pa_cons (pe_v1k K e_NoIndex hr (by omega) (by rfl) (pk_cons (pv 0) pk_nil) 1) (pa_cons (pe_v1 K e_NoText hr (by omega) (by rfl) (pa_cons (pv 0) pa_nil) 1) (pa_cons (pe_v1k K e_NoText hr (by omega) (by rfl) (pk_cons (pv 0) pk_nil) 1) pa_nil)))))))
      (pss_cons (ps_set (i := 2) nd rfl (Or.inl rfl) (pe_op op_cat (pv 2) (pe_lst (pa_cons (pe_v1 K e_NoCommand hr (by omega) (by rfl) (pa_cons (pv 0) pa_nil) 1) (pa_cons (pe_v1k K e_NoCommand hr (by omega) (by rfl) (pk_cons (pv 0) pk_nil) 1) pa_nil)))))
      (pss_cons (ps_set (i := 2) nd rfl (Or.inl rfl) (pe_op op_cat (pv 2) (pe_lst (pa_cons (pe_v2 K false e_Wrong hr (by omega) (by rfl) (pa_cons (pv 0) (pa_cons (pv 1) pa_nil))) (pa_cons (pe_v2k K false e_Wrong hr (by omega) (by rfl) (pk_cons (pv 1) (pk_cons (pv 0) pk_nil))) pa_nil)))))
      (pss_cons (ps_set (i := 2) nd rfl (Or.inl rfl) (pe_op op_cat (pv 2) (pe_lst (pa_cons (pe_v2 K false e_Refused hr (by omega) (by rfl) (pa_cons (pv 0) (pa_cons (pv 1) pa_nil))) (pa_cons (pe_v2k K false e_Refused hr (by omega) (by rfl) (pk_cons (pv 1) (pk_cons (pv 0) pk_nil))) pa_nil)))))
      (pss_cons (ps_set (i := 3) nd rfl (Or.inl rfl) (pe_lst (pa_cons (pe_v2 K true e_Wrong hr (by omega) (by rfl) (pa_cons (pv 0) (pa_cons (pv 1) pa_nil))) (pa_cons (pe_v2k K true e_Wrong hr (by omega) (by rfl) (pk_cons (pv 1) (pk_cons (pv 0) pk_nil))) (pa_cons (pe_v2 K true e_Refused hr (by omega) (by rfl) (pa_cons (pv 0) (pa_cons (pv 1) pa_nil))) pa_nil)))))
      (pss_cons (ps_expr (pe_bm PySem.F.plainAttrs_list PySem.F.slot_list_append PySem.F.type_list_append mt_append (pv 3) (pa_cons (pe_v2k K true e_Refused hr (by omega) (by rfl) (pk_cons (pv 1) (pk_cons (pv 0) pk_nil))) pa_nil)))
      (pss_one (ps_ret (pe_and (pe_callB (call_allK K) (by rfl) (by assumption) (by decide +kernel) (pa_cons (pe_lc (own := [("_law_one", 4)]) (g := (gName 4)) (tt := tYes) rfl nd (pi_list (pv 2)) (blkOk_by (N := N__law_fields_right) (sc := defScope s__law_fields_right) (by decide +kernel)) (fun _ _ _ _ _ => (pg_name (i := 4) nd rfl (Or.inl rfl))) (fun _ _ _ _ _ => pts_nil) (fun _ _ _ _ _ => (pe_cmpR (op_eqDK K hu64) (pv 4) (pv 0) (nomark _)))) pa_nil)) (pe_one (pe_callB (call_allK K) (by rfl) (by assumption) (by decide +kernel) (pa_cons (pe_lc (own := [("_law_one", 4)]) (g := (gName 4)) (tt := tYes) rfl nd (pi_list (pv 3)) (blkOk_by (N := N__law_fields_right) (sc := defScope s__law_fields_right) (by decide +kernel)) (fun _ _ _ _ _ => (pg_name (i := 4) nd rfl (Or.inl rfl))) (fun _ _ _ _ _ => pts_nil) (fun _ _ _ _ _ => (pe_cmpR (op_eqDK K hu64) (pv 4) (pv 1) (nomark _)))) pa_nil)))))))))))))))))))), ?_⟩
    refine r_seq ?_
    refine st_first (n := 4) (sd := false) (iv := 0) (io := 1) (i := 2) (v := v) (o := o) (d := d) (d' := d') ⟨rfl, rfl, hv, hd, hw, hd'⟩ (by decide) (fun L1 H1 e1 _ f1 => ?_)
    have E1 : Same H H1 := e1
    dsimp only
    refine r_seq ?_
    refine st_more (n := 4) (N := 4) (L := L1) (sd := false) (iv := 0) (io := 1) (i := 2) (v := v) (o := o) (d := d) (d' := d') ⟨rfl, rfl, Dp.sameD E1 hd hv, hd, Dp.sameD E1 hd' hw, hd'⟩ rfl f1 (by decide) (fun L2 H2 e2 f2 => ?_)
    have E2 : Same H H2 := E1.trans e2
    clear f1 e2 E1
    dsimp only
    refine r_seq ?_
    refine st_more (n := 4) (N := 8) (L := L2) (sd := false) (iv := 0) (io := 1) (i := 2) (v := v) (o := o) (d := d) (d' := d') ⟨rfl, rfl, Dp.sameD E2 hd hv, hd, Dp.sameD E2 hd' hw, hd'⟩ rfl f2 (by decide) (fun L3 H3 e3 f3 => ?_)
    have E3 : Same H H3 := E2.trans e3
    clear f2 e3 E2
    dsimp only
    refine r_seq ?_
    refine st_more (n := 3) (N := 12) (L := L3) (sd := false) (iv := 0) (io := 1) (i := 2) (v := v) (o := o) (d := d) (d' := d') ⟨rfl, rfl, Dp.sameD E3 hd hv, hd, Dp.sameD E3 hd' hw, hd'⟩ rfl f3 (by decide) (fun L4 H4 e4 f4 => ?_)
    have E4 : Same H H4 := E3.trans e4
    clear f3 e4 E3
    dsimp only
    refine r_seq ?_
    refine st_more (n := 3) (N := 15) (L := L4) (sd := false) (iv := 0) (io := 1) (i := 2) (v := v) (o := o) (d := d) (d' := d') ⟨rfl, rfl, Dp.sameD E4 hd hv, hd, Dp.sameD E4 hd' hw, hd'⟩ rfl f4 (by decide) (fun L5 H5 e5 f5 => ?_)
    have E5 : Same H H5 := E4.trans e5
    clear f4 e5 E4
    dsimp only
    refine r_seq ?_
    refine st_more (n := 3) (N := 18) (L := L5) (sd := false) (iv := 0) (io := 1) (i := 2) (v := v) (o := o) (d := d) (d' := d') ⟨rfl, rfl, Dp.sameD E5 hd hv, hd, Dp.sameD E5 hd' hw, hd'⟩ rfl f5 (by decide) (fun L6 H6 e6 f6 => ?_)
    have E6 : Same H H6 := E5.trans e6
    clear f5 e6 E5
    dsimp only
    refine r_seq ?_
    refine st_more (n := 3) (N := 21) (L := L6) (sd := false) (iv := 0) (io := 1) (i := 2) (v := v) (o := o) (d := d) (d' := d') ⟨rfl, rfl, Dp.sameD E6 hd hv, hd, Dp.sameD E6 hd' hw, hd'⟩ rfl f6 (by decide) (fun L7 H7 e7 f7 => ?_)
    have E7 : Same H H7 := E6.trans e7
    clear f6 e7 E6
    dsimp only
    refine r_seq ?_
    refine st_more (n := 4) (N := 24) (L := L7) (sd := false) (iv := 0) (io := 1) (i := 2) (v := v) (o := o) (d := d) (d' := d') ⟨rfl, rfl, Dp.sameD E7 hd hv, hd, Dp.sameD E7 hd' hw, hd'⟩ rfl f7 (by decide) (fun L8 H8 e8 f8 => ?_)
    have E8 : Same H H8 := E7.trans e8
    clear f7 e8 E7
    dsimp only
    refine r_seq ?_
    refine st_more (n := 4) (N := 28) (L := L8) (sd := false) (iv := 0) (io := 1) (i := 2) (v := v) (o := o) (d := d) (d' := d') ⟨rfl, rfl, Dp.sameD E8 hd hv, hd, Dp.sameD E8 hd' hw, hd'⟩ rfl f8 (by decide) (fun L9 H9 e9 f9 => ?_)
    have E9 : Same H H9 := E8.trans e9
    clear f8 e9 E8
    dsimp only
    refine r_seq ?_
    refine st_more (n := 2) (N := 32) (L := L9) (sd := false) (iv := 0) (io := 1) (i := 2) (v := v) (o := o) (d := d) (d' := d') ⟨rfl, rfl, Dp.sameD E9 hd hv, hd, Dp.sameD E9 hd' hw, hd'⟩ rfl f9 (by decide) (fun L10 H10 e10 f10 => ?_)
    have E10 : Same H H10 := E9.trans e10
    clear f9 e10 E9
    dsimp only
    refine r_seq ?_
    refine st_more (n := 2) (N := 34) (L := L10) (sd := false) (iv := 0) (io := 1) (i := 2) (v := v) (o := o) (d := d) (d' := d') ⟨rfl, rfl, Dp.sameD E10 hd hv, hd, Dp.sameD E10 hd' hw, hd'⟩ rfl f10 (by decide) (fun L11 H11 e11 f11 => ?_)
    have E11 : Same H H11 := E10.trans e11
    clear f10 e11 E10
    dsimp only
    refine r_seq ?_
    refine st_more (n := 2) (N := 36) (L := L11) (sd := false) (iv := 0) (io := 1) (i := 2) (v := v) (o := o) (d := d) (d' := d') ⟨rfl, rfl, Dp.sameD E11 hd hv, hd, Dp.sameD E11 hd' hw, hd'⟩ rfl f11 (by decide) (fun L12 H12 e12 f12 => ?_)
    have E12 : Same H H12 := E11.trans e12
    clear f11 e12 E11
    dsimp only
    refine r_seq ?_
    refine st_first (n := 3) (sd := true) (iv := 0) (io := 1) (i := 3) (v := v) (o := o) (d := d) (d' := d') ⟨rfl, rfl, Dp.sameD E12 hd hv, hd, Dp.sameD E12 hd' hw, hd'⟩ (by decide) (fun M H13 e13 hM g => ?_)
    have E13 : Same H H13 := E12.trans e13
    have f13 := f12.same (sd_d hd) e13
    dsimp only
    refine r_seq ?_
    refine r_drop ?_
    refine r_bm ?_
    refine r_var rfl ?_
    obtain ⟨ms, g1, g2, g3⟩ := g
    refine r_tyL g1 ?_
    refine ⟨v, o, d, d', ⟨rfl, rfl, Dp.sameD E13 hd hv, hd, Dp.sameD E13 hd' hw, hd'⟩, fun x H14 e14 hx => ?_⟩
    have E14 : Same H H14 := E13.trans e14
    have gm := e14 _ _ g1
    obtain ⟨vs, b1, b2, b3⟩ := f12
    have hLM : L12 ≠ M := ne_of_none b1 hM
    have c1 := (e13.trans e14) _ _ b1
    have g3' : ∀ y ∈ ms, Dp K H14 y d' := fun y hy => Dp.sameD e14 hd' (g3 y hy)
    obtain ⟨m0, mr, rfl⟩ : ∃ m0 mr, ms = m0 :: mr := by
      cases ms with
      | nil => cases g2
      | cons a b => exact ⟨a, b, rfl⟩
    have hm0 := g3' m0 List.mem_cons_self
    have hx' : Dp K H14 x d' := hx
    refine r_nil ?_
    refine r_append gm (Nat.lt_of_le_of_lt (by omega : (m0 :: mr).length ≤ 100) (by decide)) ?_
    have V1 : ∀ y ∈ vs, Dp K (upd H14 M (.lst (m0 :: mr ++ [x]))) y d := fun y hy => Dp.off (sd_d (d' := d') hd) (b3 y hy) hM (e13.trans e14)
    have V2 : ∀ y ∈ m0 :: mr ++ [x], Dp K (upd H14 M (.lst (m0 :: mr ++ [x]))) y d' := fun y hy => by
      rcases List.mem_append.mp hy with hy | hy
      · exact Dp.app hd' gm hm0 (g3' y hy)
      · rw [List.mem_singleton] at hy
        rw [hy]
        exact Dp.app hd' gm hm0 hx'
    have V3 : Dp K (upd H14 M (.lst (m0 :: mr ++ [x]))) v d := Dp.off hd hv (Same.free E12 hM) E14
    have V4 : Dp K (upd H14 M (.lst (m0 :: mr ++ [x]))) o d' := Dp.off hd' hw (Same.free E12 hM) E14
    have V5 : (upd H14 M (.lst (m0 :: mr ++ [x]))) L12 = some (.lst vs) := by rw [upd_ne hLM]; exact c1
    have V6 : (upd H14 M (.lst (m0 :: mr ++ [x]))) M = some (.lst (m0 :: mr ++ [x])) := upd_same
    have V7 : Same H (upd H14 M (.lst (m0 :: mr ++ [x]))) := fun b u eb => by rw [upd_ne (ne_of_none eb (Same.free E12 hM))]; exact E14 _ _ eb
    have lm : (m0 :: mr ++ [x]).length ≤ 100 := by rw [List.length_append, g2]; show 4 ≤ 100; decide
    have lv : vs.length ≤ 100 := Nat.le_trans (Nat.le_of_eq b2) (by decide)
    exact fields_end (w4 := none) hd hd' lv lm V5 V6 V1 V2 V3 V4 s1 q1 s2 q2 (fun H' e' => q H' (V7.trans e'))
end
end Th
namespace Th
open PySem PySem.Spec PyProof.Rows L2
local macro_rules | `(tactic| walk_at "lk") => `(tactic| first
  | assumption
  | exact upd_same
  | (refine upd_old (by assumption) ?_; walk_at "lk")
  | (refine upd_diff (by assumption) ?_; walk_at "lk")
  | (refine upd_diff (Ne.symm (by assumption)) ?_; walk_at "lk"))
local macro_rules | `(tactic| walk_at "cnd") => `(tactic| first
  | omega
  | (refine ⟨by omega, by omega⟩)
  | (refine ⟨by omega, by omega, by omega⟩)
  | (refine .inl ⟨by omega, by omega⟩)
  | (refine .inr ⟨by omega, by omega⟩)
  | (exact (show CPow _ _ from ⟨by decide, by decide, by omega⟩))
  | decide +kernel
  | (unfold CMulW; decide +kernel)
  | (exact wide_div (b := 64) (by omega) (by omega) (by decide) (by decide)))
local macro_rules | `(tactic| walk_at "rd1") => `(tactic| first
  | (with_reducible refine r_seq ?_)
  | (with_reducible refine r_asg ?_)
  | (with_reducible refine r_ret ?_)
  | (with_reducible refine r_if ?_)
  | (with_reducible refine r_gname ?_)
  | ((with_reducible refine' r_var ?hv ?_); (case hv => exact rfl))
  | (with_reducible refine r_c ?_)
  | (with_reducible refine r_op ?_)
  | (with_reducible refine r_I0 ?_)
  | ((with_reducible refine r_I ?hc ?_); (case hc => walk_at "cnd"))
  | (with_reducible refine r_test ?_)
  | (with_reducible refine r_tB ?_)
  | (with_reducible refine r_bl ?_)
  | (with_reducible refine r_not ?_)
  | (with_reducible refine r_and ?_)
  | (with_reducible refine r_or ?_)
  | (with_reducible refine r_ifE ?_)
  | (with_reducible refine r_notV ?_)
  | (with_reducible refine r_andV ?_)
  | (with_reducible refine r_orV ?_)
  | (with_reducible refine r_chain ?_)
  | (with_reducible refine r_cb ?_)
  | (with_reducible refine r_call ?_)
  | (with_reducible refine r_callN ?_)
  | (with_reducible refine r_nil ?_)
  | (with_reducible refine r_cons ?_)
  | ((with_reducible refine r_lst ?_))
  | ((with_reducible refine r_tup ?_))
  | ((with_reducible refine r_new ?_ ?_); (exact Nat.le_of_ble_eq_true rfl); (intro p hp))
  | (with_reducible refine r_rInt1 ?_)
  | (with_reducible refine r_rIntB ?_)
  | (with_reducible refine r_rAbs ?_)
  | (with_reducible refine r_rMin2 ?_)
  | (with_reducible refine r_rMax2 ?_)
  | ((with_reducible refine r_rLenZ ?hz ?_); (case hz => first | assumption | exact Nat.le_of_ble_eq_true rfl | (refine Nat.le_trans ?_ (by decide : 100000 ≤ sizeLine); omega)))
  | ((with_reducible refine r_addZ ?hz ?_); (case hz => (refine Nat.le_trans ?_ (by decide : 100000 ≤ sizeLine); first | omega | (simp only [Str.length] at *; simp; omega))))
  | ((with_reducible refine r_mulZ ?hz ?h0 ?h1 ?_); (case hz => first | omega | exact Nat.le_of_ble_eq_true rfl); (case h0 => omega); (case h1 => omega))
  | ((with_reducible refine' r_rLenQ ?h1 ?_); (case h1 => first | (exact .inl (by assumption)) | (exact .inr (by assumption)) | (exact .inl (SqL.of (by walk_at "lk"))) | (exact .inr (SqT.of (by walk_at "lk")))))
  | ((with_reducible refine r_eq ?hs ?_); (case hs => exact rfl))
  | ((with_reducible refine r_ne ?hs ?_); (case hs => exact rfl))
  | (with_reducible refine r_inC ?_)
  | ((with_reducible refine' r_cat ?h1 ?h2 ?h3 ?_); (case h1 => walk_at "lk"); (case h2 => walk_at "lk"); (case h3 => exact Nat.le_of_ble_eq_true rfl); (intro p hp))
  | ((with_reducible refine' r_rep ?h1 ?h2 ?h3 ?h4 ?_); (case h1 => walk_at "lk"); (case h2 => omega); (case h3 => omega); (case h4 => exact Nat.le_of_ble_eq_true rfl); (intro p hp))
  | ((with_reducible refine' r_append ?h1 ?h2 ?_); (case h1 => walk_at "lk"); (case h2 => first | exact (show _ + 1 ≤ sizeLine from Nat.le_of_ble_eq_true rfl) | exact Nat.lt_of_le_of_lt (by omega : _ ≤ 100000) (by decide)))
  | (with_reducible refine r_bm ?_)
  | ((with_reducible refine' r_tyL ?h1 ?_); (case h1 => walk_at "lk"))
  | ((with_reducible refine' r_ixL ?h1 ?h2 ?_); (case h1 => first | assumption | exact SqL.of (by walk_at "lk")); (case h2 => exact rfl))
  | ((with_reducible refine' r_ixT ?h1 ?h2 ?_); (case h1 => first | assumption | exact SqT.of (by walk_at "lk")); (case h2 => exact rfl))
  | (with_reducible refine r_gsub ?_)
  | ((with_reducible refine' r_setL ?h1 ?h2 ?_); (case h1 => walk_at "lk"); (case h2 => exact rfl))
  | (with_reducible refine r_un ?_)
  | (with_reducible refine r_neg ?_)
  | (with_reducible refine r_iteT ?_)
  | (with_reducible refine r_iteNT ?_)
  | (with_reducible refine r_iteNF ?_)
  | (with_reducible refine r_iteF ?_)
  | (with_reducible refine r_next ?_)
  | (with_reducible refine r_drop ?_)
  | (with_reducible refine r_cont ?_)
  | (with_reducible refine r_brk ?_))
local macro_rules | `(tactic| walk_at "ty") => `(tactic| first
  | assumption
  | exact .base (.int _)
  | exact .base (.str _)
  | exact .base (.bl _)
  | exact .base .non
  | exact .byt _
  | exact .base (.lst (by walk_at "lk"))
  | exact .base (.tup (by walk_at "lk")))
local macro_rules | `(tactic| walk_at "rd2") => `(tactic| first
  | walk_at "rd1"
  | ((with_reducible refine' r_isi true ?ht ?hk ?_); (case ht => walk_at "ty"); (case hk => first | assumption | decide +kernel))
  | ((with_reducible refine' r_isi false ?ht ?hk ?_); (case ht => walk_at "ty"); (case hk => first | assumption | decide +kernel))
  | ((with_reducible refine' r_isiT2 true true ?hT ?ht ?hk ?hk2 ?_); (case hT => walk_at "lk"); (case ht => walk_at "ty"); (case hk => decide +kernel); (case hk2 => decide +kernel))
  | ((with_reducible refine' r_isiT2 true false ?hT ?ht ?hk ?hk2 ?_); (case hT => walk_at "lk"); (case ht => walk_at "ty"); (case hk => decide +kernel); (case hk2 => decide +kernel))
  | ((with_reducible refine' r_isiT2 false true ?hT ?ht ?hk ?hk2 ?_); (case hT => walk_at "lk"); (case ht => walk_at "ty"); (case hk => decide +kernel); (case hk2 => decide +kernel))
  | ((with_reducible refine' r_isiT2 false false ?hT ?ht ?hk ?hk2 ?_); (case hT => walk_at "lk"); (case ht => walk_at "ty"); (case hk => decide +kernel); (case hk2 => decide +kernel))
  | (with_reducible refine r_iteNT ?_)
  | ((show (if (!true) = true then _ else _)); refine r_iteNT ?_)
  | (with_reducible refine r_r1 ?_)
  | (with_reducible refine r_maks ?_)
  | (with_reducible refine r_sfld ?_)
  | ((with_reducible refine' r_sfldE ?h1 ?h2 ?h3 ?h4 ?_); (case h1 => walk_at "lk"); (case h2 => assumption); (case h3 => assumption); (case h4 => exact (show _ + 1 ≤ 1000 from Nat.le_of_ble_eq_true rfl)))
  | (with_reducible refine r_fld ?_)
  | (with_reducible refine r_join ?_)
  | (with_reducible refine r_jcons ?_)
  | (with_reducible refine r_jnil ?_)
  | ((with_reducible refine r_rLenY ?hz ?_); (case hz => first | assumption | (refine Nat.le_trans ?_ (by decide : 100000 ≤ sizeLine); omega)))
  | (with_reducible refine r_par ?_)
  | (with_reducible refine r_pair ?_)
  | (with_reducible refine r_par3 ?_)
  | (with_reducible refine r_trip ?_)
  | ((with_reducible refine' r_gtup ?h1 ?h2 ?_); (case h1 => first | assumption | exact SqT.of (by walk_at "lk")); (case h2 => exact rfl))
  | (with_reducible refine r_gcons ?_)
  | (with_reducible refine r_gnil ?_)
  | ((with_reducible refine' r_slL ?h1 ?_); (case h1 => first | assumption | exact SqL.of (by walk_at "lk")); (intro p hp))
  | (with_reducible refine r_iTup ?_)
  | ((with_reducible refine' r_tupE ?h1 ?_); (case h1 => first | assumption | exact SqT.of (by walk_at "lk")))
  | (with_reducible refine r_m1 ?_)
  | (with_reducible refine r_isZ ?_)
  | (with_reducible refine r_sl ?_)
  | (with_reducible refine r_noPart ?_)
  | (with_reducible refine r_part ?_)
  | (with_reducible refine r_partE ?_)
  | ((with_reducible refine r_slS ?hz ?_); (case hz => first | assumption | (refine Nat.le_trans ?_ (by decide : 100000 ≤ sizeLine); omega)))
  | ((with_reducible refine' r_inT ?h1 ?h2 ?h3 ?_); (case h1 => first | assumption | (exact SqT.of (by walk_at "lk"))); (case h2 => exact rfl); (case h3 => exact rfl))
  | ((with_reducible refine' r_inL ?h1 ?h2 ?h3 ?_); (case h1 => first | assumption | (exact SqL.of (by walk_at "lk"))); (case h2 => exact rfl); (case h3 => exact rfl))
  | (with_reducible refine r_lc ?_)
  | (with_reducible refine r_for ?_)
  | (with_reducible refine r_iStr ?_)
  | (with_reducible refine r_strE ?_)
  | (with_reducible refine r_iList ?_)
  | ((with_reducible refine' r_listE ?h1 ?_); (case h1 => first | assumption | exact SqL.of (by walk_at "lk")))
  | (with_reducible refine r_iRng1 ?_)
  | ((with_reducible refine' r_rngE ?h0 ?h1 ?_); (case h0 => first | omega | (split <;> omega)); (case h1 => first | omega | (split <;> omega))))
local macro_rules | `(tactic| walk_at "rd") => `(tactic| (repeat walk_at "rd2"))
local macro_rules | `(tactic| walk_at "st") => `(tactic| (repeat (first
  | (with_reducible refine r_gname ?_)
  | (with_reducible refine r_next ?_)
  | (with_reducible refine r_seq ?_)
  | (with_reducible refine r_asg ?_)
  | (with_reducible refine r_ret ?_)
  | (with_reducible refine r_for ?_)
  | (with_reducible refine r_iRng1 ?_)
  | (with_reducible refine r_iList ?_)
  | (with_reducible refine r_cons ?_)
  | (with_reducible refine r_par ?_)
  | (with_reducible refine r_par3 ?_))))
/-! ### the law -/
def tMks (K : PySem.W.Frag) (iv io : Nat) : List Addr → TA
  | [] => tNil
  | C :: r => tCons (tMk K C iv io) (tMks K iv io r)
theorem r_mks {K : PySem.W.Frag} {iv io : Nat} {σ : L2.St} {v o : V} {d d' : PyData} : ∀ {Cs : List Addr} {H : Hp} {Q : List V → Hp → Prop}, Two K iv io σ H v o d d' → (∀ (as : List Addr) H', Same H H' → Paired (fun a C => XOb K H' a C) as Cs → Q (as.map V.ref) H') → tMks K iv io Cs σ H Q
  | [], H, Q, h, k => k [] H (Same.refl _) .nil
  | C :: r, H, Q, h, k => ⟨v, o, d, d', h, fun a H1 e1 hx => r_mks (h.same e1) fun as H2 e2 hp => k (a :: as) H2 (e1.trans e2) (.cons (hx.same e2) hp)⟩
def SL (K : PySem.W.Frag) (H : Hp) (L : Addr) (Cs : List Addr) : Prop := ∃ as : List Addr, H L = some (.lst (as.map V.ref)) ∧ Paired (fun a C => XOb K H a C) as Cs
theorem paired_app {α β : Type} {R : α → β → Prop} : ∀ {xs xs' : List α} {ys ys' : List β}, Paired R xs ys → Paired R xs' ys' → Paired R (xs ++ xs') (ys ++ ys')
  | _, _, _, _, .nil, q => q
  | _, _, _, _, .cons r t, q => .cons r (paired_app t q)
theorem SL.same {K : PySem.W.Frag} {H H' : Hp} {L : Addr} {Cs : List Addr} (e : Same H H') (h : SL K H L Cs) : SL K H' L Cs := by
  obtain ⟨as, h1, h2⟩ := h
  exact ⟨as, e _ _ h1, Paired.mapP h2 fun a C x => x.same e⟩
theorem sm_first {K : PySem.W.Frag} {iv io i : Nat} {Cs : List Addr} {σ : L2.St} {H : Hp} {D : Ends} {v o : V} {d d' : PyData} (h : Two K iv io σ H v o d d') (hn : Cs.length ≤ 50) (k : ∀ L H', Same H H' → SL K H' L Cs → D.nx (σ.set i (some (.ref L))) H') :
    tAsg (tLst (tMks K iv io Cs)) (gName i) D σ H := by
  refine r_asg ?_
  refine r_lst ?_
  refine r_mks h fun as H1 e1 hp1 => ⟨Nat.le_trans (by rw [List.length_map, hp1.length]; exact hn) (by decide), fun p hp => ?_⟩
  refine r_gname ?_
  exact k p _ (e1.trans (same_new hp)) ⟨as, upd_same, Paired.mapP hp1 fun a C x => x.same (same_new hp)⟩
theorem sm_more {K : PySem.W.Frag} {iv io i : Nat} {L : Addr} {Cs Ds : List Addr} {σ : L2.St} {H : Hp} {D : Ends} {v o : V} {d d' : PyData} (h : Two K iv io σ H v o d d') (hi : σ[i]? = some (some (.ref L))) (hs : SL K H L Ds) (hn : Ds.length + Cs.length ≤ 50)
    (k : ∀ L H', Same H H' → SL K H' L (Ds ++ Cs) → D.nx (σ.set i (some (.ref L))) H') : tAsg (tOp rCat (tVar i) (tLst (tMks K iv io Cs))) (gName i) D σ H := by
  refine r_asg ?_
  refine r_op ?_
  refine r_var hi ?_
  refine r_lst ?_
  refine r_mks h fun as H1 e1 hp1 => ⟨Nat.le_trans (by rw [List.length_map, hp1.length]; omega : _ ≤ 50) (by decide), fun p hp => ?_⟩
  obtain ⟨bs, h1, h2⟩ := hs.same (e1.trans (same_new (o := .lst (as.map V.ref)) hp))
  refine r_cat h1 upd_same (Nat.le_trans (by rw [List.length_map, List.length_map, hp1.length, h2.length]; exact hn : _ ≤ 50) (by decide)) (fun q hq => ?_)
  refine r_gname ?_
  refine k q _ ((e1.trans (same_new hp)).trans (same_new hq)) ⟨bs ++ as, by rw [upd_same, List.map_append], paired_app (Paired.mapP h2 fun a C x => x.same (same_new hq)) (Paired.mapP hp1 fun a C x => x.same ((same_new hp).trans (same_new hq)))⟩
def basesL : List V := [.str "TypeError", .str "TypeError", .str "ValueError", .str "ValueError", .str "OverflowError", .str "ValueError", .str "ValueError", .str "TypeError", .str "TypeError", .str "OverflowError", .str "RuntimeError", .str "IndexError", .str "ValueError", .str "ValueError", .str "TypeError", .str "KeyError", .str "RuntimeError", .str "IndexError", .str "LookupError", .str "ValueError", .str "ValueError"]
theorem bases_ok : ∀ (j : Nat) (bm : List Value), bms[j]? = some bm → ∃ (n : String) (r : List Value), bm = Value.type n :: r ∧ basesL[j]? = some (V.str (Str.ofString n)) := by
  intro j bm h
  match j, h with
  | 0, h => cases h; exact ⟨_, _, rfl, rfl⟩
  | 1, h => cases h; exact ⟨_, _, rfl, rfl⟩
  | 2, h => cases h; exact ⟨_, _, rfl, rfl⟩
  | 3, h => cases h; exact ⟨_, _, rfl, rfl⟩
  | 4, h => cases h; exact ⟨_, _, rfl, rfl⟩
  | 5, h => cases h; exact ⟨_, _, rfl, rfl⟩
  | 6, h => cases h; exact ⟨_, _, rfl, rfl⟩
  | 7, h => cases h; exact ⟨_, _, rfl, rfl⟩
  | 8, h => cases h; exact ⟨_, _, rfl, rfl⟩
  | 9, h => cases h; exact ⟨_, _, rfl, rfl⟩
  | 10, h => cases h; exact ⟨_, _, rfl, rfl⟩
  | 11, h => cases h; exact ⟨_, _, rfl, rfl⟩
  | 12, h => cases h; exact ⟨_, _, rfl, rfl⟩
  | 13, h => cases h; exact ⟨_, _, rfl, rfl⟩
  | 14, h => cases h; exact ⟨_, _, rfl, rfl⟩
  | 15, h => cases h; exact ⟨_, _, rfl, rfl⟩
  | 16, h => cases h; exact ⟨_, _, rfl, rfl⟩
  | 17, h => cases h; exact ⟨_, _, rfl, rfl⟩
  | 18, h => cases h; exact ⟨_, _, rfl, rfl⟩
  | 19, h => cases h; exact ⟨_, _, rfl, rfl⟩
  | 20, h => cases h; exact ⟨_, _, rfl, rfl⟩
  | j + 21, h => simp [bms] at h
theorem at_nat {α : Type} (xs : List α) (j : Nat) : atI xs (j : Int) = xs[j]? := by
  unfold atI ixN
  rw [if_pos (by omega)]
  by_cases h : j < xs.length
  · rw [if_pos (by omega)]
    show xs[((j : Nat) : Int).toNat]? = _
    rw [Int.toNat_natCast]
  · rw [if_neg (by omega), List.getElem?_eq_none (by omega)]
    rfl
theorem nodup_row {xs : List Addr} (hn : xs.Nodup) {j : Nat} {C : Addr} (hj : xs[j]? = some C) : xs.map (fun D => decide (C = D)) = (List.range xs.length).map (fun i => decide (i = j)) := by
  apply List.ext_getElem?
  intro i
  rw [List.getElem?_map, List.getElem?_map]
  by_cases hi : i < xs.length
  · rw [List.getElem?_eq_getElem hi, List.getElem?_range hi]
    show some _ = some _
    congr 1
    obtain ⟨hj1, hj2⟩ := List.getElem?_eq_some_iff.mp hj
    rw [Bool.eq_iff_iff]
    simp only [decide_eq_true_eq]
    constructor
    · intro e
      exact ((List.getElem_inj hn).mp (hj2.trans e)).symm
    · intro e
      subst e
      exact hj2.symm
  · rw [List.getElem?_eq_none (by omega), List.getElem?_eq_none (by rw [List.length_range]; omega)]
    rfl
theorem dpa_bools {K : PySem.W.Frag} {H : Hp} : ∀ bs : List Bool, DpAll K H (bs.map V.bl) (bs.map PyData.bool)
  | [] => .nil
  | b :: r => .cons (.bl b) (dpa_bools r)
theorem bools_ok : ∀ bs : List Bool, PyData.canLayAll0 (bs.map PyData.bool) = true ∧ PyData.depthAll (bs.map PyData.bool) = 0 ∧ PyData.eqvAll (bs.map PyData.bool) (bs.map PyData.bool) = true
  | [] => by simp [PyData.canLayAll0, PyData.depthAll, PyData.eqvAll]
  | b :: r => by
    obtain ⟨h1, h2, h3⟩ := bools_ok r
    simp [PyData.canLayAll0, PyData.depthAll, PyData.canLay0, PyData.depth, PyData.eqvAll, PyData.eqv, h1, h2, h3]
theorem r_neB {K : PySem.W.Frag} {H : Hp} {Q : VK} {a b : Addr} {bs : List Bool} (ha : H a = some (.lst (bs.map V.bl))) (hb : H b = some (.lst (bs.map V.bl))) (h : Q (.bl false) H) : rNeD K (.ref a) (.ref b) H Q := by
  obtain ⟨h1, h2, h3⟩ := bools_ok bs
  have hs : SeqAt.shaped (.list (bs.map PyData.bool)) = true := by simp [SeqAt.shaped, PyData.canLay0, PyData.depth, h1, h2]
  refine ⟨.list (bs.map PyData.bool), .list (bs.map PyData.bool), .lst (SqL.of ha) (dpa_bools bs), .lst (SqL.of hb) (dpa_bools bs), hs, hs, ?_⟩
  rw [show PyData.eqv (.list (bs.map PyData.bool)) (.list (bs.map PyData.bool)) = true by simp [PyData.eqv, h3]]
  exact h
/-- the pairs of the law -/
def prs (n : Int) : List (PyData × PyData) := [(.int n, .str "a"), (.str "b", .int n), (.none, .bool true), (.list [.int n], .tuple []), (.tuple [.str "c", .int n], .int 0)]
theorem prs_ok (n : Int) : ∀ s ∈ prs n, DV s.1 ∧ DV s.2 ∧ SeqAt.shaped s.1 = true ∧ PyData.eqv s.1 s.1 = true ∧ SeqAt.shaped s.2 = true ∧ PyData.eqv s.2 s.2 = true := by
  have ka : PyData.strOk "a" = true := by decide +kernel
  have kb : PyData.strOk "b" = true := by decide +kernel
  have kc : PyData.strOk "c" = true := by decide +kernel
  intro s hs
  simp only [prs, List.mem_cons, List.not_mem_nil, or_false] at hs
  rcases hs with rfl | rfl | rfl | rfl | rfl <;> simp [DV, scalD, SeqAt.shaped, PyData.canLay0, PyData.canLayAll0, PyData.depth, PyData.depthAll, PyData.eqv, PyData.eqvAll, ka, kb, kc]
theorem r_iEnum {K : PySem.W.Frag} {ta : TA} {σ : L2.St} {H : Hp} {R : It → Hp → Prop} (h : ta σ H fun vs H1 => ∃ a xs, vs = [.ref a] ∧ SqL K H1 a xs ∧ R (Ite K a) H1) : iEnum K ta σ H R := h
theorem paired_at {α β : Type} {R : α → β → Prop} : ∀ {xs : List α} {ys : List β}, Paired R xs ys → ∀ {i : Nat} {x : α}, xs[i]? = some x → ∃ y, ys[i]? = some y ∧ R x y
  | _, _, .nil, i, x, h => by simp at h
  | _, _, .cons r t, 0, x, h => by
    rw [List.getElem?_cons_zero] at h
    cases h
    exact ⟨_, rfl, r⟩
  | _, _, .cons r t, i + 1, x, h => by
    rw [List.getElem?_cons_succ] at h
    exact paired_at t h
def PPf (K : PySem.W.Frag) (H : Hp) (t : Addr) (s : PyData × PyData) : Prop := ∃ v o, H t = some (.tup [v, o]) ∧ Dp K H v s.1 ∧ Dp K H o s.2
theorem PPf.all {K : PySem.W.Frag} {H H' : Hp} : ∀ {ts : List Addr} {ss : List (PyData × PyData)}, (∀ s ∈ ss, DV s.1 ∧ DV s.2) → Same H H' → Paired (PPf K H) ts ss → Paired (PPf K H') ts ss
  | _, _, _, _, .nil => .nil
  | _, _, h, e, .cons ⟨v, o, h1, h2, h3⟩ t => .cons ⟨v, o, e _ _ h1, Dp.sameD e (h _ List.mem_cons_self).1 h2, Dp.sameD e (h _ List.mem_cons_self).2 h3⟩ (PPf.all (fun s hs => h s (List.mem_cons_of_mem _ hs)) e t)
theorem r_lenG {K : PySem.W.Frag} {H : Hp} {a : Addr} {Q : VK} (h : ∀ G, G = H → rLenQ K [.ref a] G Q) : rLenQ K [.ref a] H Q := h H rfl
def spLaw (K : PySem.W.Frag) : Sp := fun vs H Q _ => ∃ (a : Addr) (ns : List Int), vs = [.ref a] ∧ SqL K H a (ns.map V.int) ∧ ns.length ≤ 63 ∧ ∀ H', Q (.bl true) H'
section
variable {P : Program} {w : World} {K : PySem.W.Frag} {mg : Str → Option Value} {base : Heap}
theorem ok_law {f : Addr} {fd : FuncData} {c : Es} (F : Fun K "law" "law" s_law f fd) (m1 : mg "range" = none) (m2 : mg "max" = none) (m3 : mg "min" = none) (m4 : mg "len" = none) (m5 : mg "int" = none) (m6 : mg "enumerate" = none) (E0 : EsOk K c)
    (m_NoBlob : mg "NoBlob" = some (.ref c.NoBlob)) (m_NoData : mg "NoData" = some (.ref c.NoData)) (m_NoName : mg "NoName" = some (.ref c.NoName)) (m_NoMode : mg "NoMode" = some (.ref c.NoMode)) (m_NoTime : mg "NoTime" = some (.ref c.NoTime)) (m_NoSize : mg "NoSize" = some (.ref c.NoSize)) (m_NoPieces : mg "NoPieces" = some (.ref c.NoPieces)) (m_NoBlock : mg "NoBlock" = some (.ref c.NoBlock)) (m_NoMember : mg "NoMember" = some (.ref c.NoMember)) (m_TooMany : mg "TooMany" = some (.ref c.TooMany)) (m_Closed : mg "Closed" = some (.ref c.Closed)) (m_NoOffset : mg "NoOffset" = some (.ref c.NoOffset)) (m_Torn : mg "Torn" = some (.ref c.Torn)) (m_Wrong : mg "Wrong" = some (.ref c.Wrong)) (m_NoHouse : mg "NoHouse" = some (.ref c.NoHouse)) (m_NoPath : mg "NoPath" = some (.ref c.NoPath)) (m_Refused : mg "Refused" = some (.ref c.Refused)) (m_NoIndex : mg "NoIndex" = some (.ref c.NoIndex)) (m_NoEdit : mg "NoEdit" = some (.ref c.NoEdit)) (m_NoText : mg "NoText" = some (.ref c.NoText)) (m_NoCommand : mg "NoCommand" = some (.ref c.NoCommand))
    (e_NoBlob : ME1 P w K mg base 3 "NoBlob" c.NoBlob "numbers") (e_NoData : ME1 P w K mg base 3 "NoData" c.NoData "thing") (e_NoName : ME1 P w K mg base 3 "NoName" c.NoName "name") (e_NoMode : ME1 P w K mg base 3 "NoMode" c.NoMode "mode") (e_NoTime : ME1 P w K mg base 3 "NoTime" c.NoTime "time") (e_NoSize : ME1 P w K mg base 3 "NoSize" c.NoSize "size") (e_NoPieces : ME1 P w K mg base 3 "NoPieces" c.NoPieces "pieces") (e_NoBlock : ME1 P w K mg base 3 "NoBlock" c.NoBlock "thing") (e_NoMember : ME1 P w K mg base 3 "NoMember" c.NoMember "thing") (e_TooMany : ME1 P w K mg base 3 "TooMany" c.TooMany "limit") (e_NoOffset : ME1 P w K mg base 3 "NoOffset" c.NoOffset "offset") (e_Torn : ME1 P w K mg base 3 "Torn" c.Torn "offset") (e_NoHouse : ME1 P w K mg base 3 "NoHouse" c.NoHouse "given") (e_NoPath : ME1 P w K mg base 3 "NoPath" c.NoPath "path") (e_NoIndex : ME1 P w K mg base 3 "NoIndex" c.NoIndex "index") (e_NoText : ME1 P w K mg base 3 "NoText" c.NoText "text") (e_NoCommand : ME1 P w K mg base 3 "NoCommand" c.NoCommand "command") (e_Wrong : ME2 P w K mg base 3 "Wrong" c.Wrong "offset" "field") (e_Refused : ME2 P w K mg base 3 "Refused" c.Refused "index" "word") (e_Closed : ME0 P w K mg base 3 "Closed" c.Closed) (e_NoEdit : ME0 P w K mg base 3 "NoEdit" c.NoEdit)
    (c_catch : CalT P w K mg base 1 "_law_catch" (spCatch K)) (c_kinds : CalT P w K mg base 1 "_law_kinds" (spKinds K c)) (c_fields : CalT P w K mg base 5 "_law_fields_right" (spFields K)) : FnG P w K mg base 6 f fd ["_law_script"] (spLaw K) := by
  refine Fun.okG (k := 5) F sc_law (fun vs H Q E h => ?_) (fun cdv A outer s H vs Q E hr gd0 h => ?_)
  · obtain ⟨a, ns, rfl, _⟩ := h
    rfl
  · obtain ⟨a, ns, rfl, hS, hz, q⟩ := h
    have hu := hu_of hr
    have nd := sc_law.nd
    have hml : (ns.map V.int).length = ns.length := List.length_map ..
    have hu64 : (A.deeper (envOfC "law" (defScope s_law) s.heap.objs.size f cdv)).units + 64 < cLine := by have := hr.un; omega
    refine ⟨_, (pss_cons (ps_set (i := 1) nd rfl (Or.inl rfl) (pe_lst (pa_cons pe_str (pa_cons pe_str (pa_cons pe_str (pa_cons pe_str (pa_cons pe_str (pa_cons pe_str (pa_cons pe_str pa_nil)))))))))
      (pss_cons (ps_set (i := 1) nd rfl (Or.inl rfl) (pe_op op_cat (pv 1) (pe_lst (pa_cons pe_str (pa_cons pe_str (pa_cons pe_str (pa_cons pe_str (pa_cons pe_str (pa_cons pe_str pa_nil)))))))))
      (pss_cons (ps_set (i := 1) nd rfl (Or.inl rfl) (pe_op op_cat (pv 1) (pe_lst (pa_cons pe_str (pa_cons pe_str (pa_cons pe_str (pa_cons pe_str (pa_cons pe_str (pa_cons pe_str (pa_cons pe_str pa_nil))))))))))
      (pss_cons (ps_expr (pe_bm PySem.F.plainAttrs_list PySem.F.slot_list_append PySem.F.type_list_append mt_append (pv 1) (pa_cons pe_str pa_nil)))
      (pss_cons (ps_for PassesOwn.never rfl (pi_range1 (by rfl) (by assumption) (pa_cons (pe_callB call_rMax2 (by rfl) (by assumption) (by decide +kernel) (pa_cons pe_int (pa_cons (pe_callB call_rMin2 (by rfl) (by assumption) (by decide +kernel) (pa_cons pe_int (pa_cons (pe_callB (call_lenK K) (by rfl) (by assumption) (by decide +kernel) (pa_cons (pv 0) pa_nil)) pa_nil))) pa_nil))) pa_nil)) (pg_name (i := 2) nd rfl (Or.inl rfl))
        (pss_cons (ps_set (i := 3) nd rfl (Or.inl rfl) (pe_ifExp (pt_cmpR op_lt (pv 2) (pe_callB (call_lenK K) (by rfl) (by assumption) (by decide +kernel) (pa_cons (pv 0) pa_nil)) (nomark _)) (pe_op op_mod (pe_callTy call_rInt1 (by rfl) (by assumption) (by decide +kernel) (pa_cons (pe_ix (ix_listK K) (pv 0) (pv 2) (fun _ _ => rfl)) pa_nil)) pe_int) pe_int))
      (pss_one (ps_for PassesOwn.never rfl (pi_list (pe_lst (pa_cons (pe_tup (pa_cons (pv 3) (pa_cons pe_str pa_nil))) (pa_cons (pe_tup (pa_cons pe_str (pa_cons (pv 3) pa_nil))) (pa_cons (pe_tup (pa_cons pe_non (pa_cons pe_bl pa_nil))) (pa_cons (pe_tup (pa_cons (pe_lst (pa_cons (pv 3) pa_nil)) (pa_cons (pe_tup pa_nil) pa_nil))) (pa_cons (pe_tup (pa_cons (pe_tup (pa_cons pe_str (pa_cons (pv 3) pa_nil))) (pa_cons pe_int pa_nil))) pa_nil))))))) (pg_tupK K (pg_tup rfl (pgs_cons (pg_name (i := 4) nd rfl (Or.inl rfl)) (pgs_cons (pg_name (i := 5) nd rfl (Or.inl rfl)) pgs_nil))))
        (pss_cons (ps_set (i := 6) nd rfl (Or.inl rfl) (pe_lst (pa_cons (pe_k1 K e_NoBlob hr (by omega) (by rfl) (pa_cons (pv 4) pa_nil) 5) (pa_cons (pe_k1 K e_NoData hr (by omega) (by rfl) (pa_cons (pv 4) pa_nil) 5) (pa_cons (pe_k1 K e_NoName hr (by omega) (by rfl) (pa_cons (pv 4) pa_nil) 5) (pa_cons (pe_k1 K e_NoMode hr (by omega) (by rfl) (pa_cons (pv 4) pa_nil) 5) (pa_cons (pe_k1 K e_NoTime hr (by omega) (by rfl) (pa_cons (pv 4) pa_nil) 5) (pa_cons (pe_k1 K e_NoSize hr (by omega) (by rfl) (pa_cons (pv 4) pa_nil) 5) pa_nil))))))))
      (pss_cons (ps_set (i := 6) nd rfl (Or.inl rfl) (pe_op op_cat (pv 6) (pe_lst (pa_cons (pe_k1 K e_NoPieces hr (by omega) (by rfl) (pa_cons (pv 4) pa_nil) 5) (pa_cons (pe_k1 K e_NoBlock hr (by omega) (by rfl) (pa_cons (pv 4) pa_nil) 5) (pa_cons (pe_k1 K e_NoMember hr (by omega) (by rfl) (pa_cons (pv 4) pa_nil) 5) (pa_cons (pe_k1 K e_TooMany hr (by omega) (by rfl) (pa_cons (pv 4) pa_nil) 5) (pa_cons (pe_k0 K e_Closed hr (by omega) (by rfl) 4 5) (pa_cons (pe_k1 K e_NoOffset hr (by omega) (by rfl) (pa_cons (pv 4) pa_nil) 5) pa_nil)))))))))
      (pss_cons (ps_set (i := 6) nd rfl (Or.inl rfl) (pe_op op_cat (pv 6) (pe_lst (pa_cons (pe_k1 K e_Torn hr (by omega) (by rfl) (pa_cons (pv 4) pa_nil) 5) (pa_cons (pe_k2 K e_Wrong hr (by omega) (by rfl) (pa_cons (pv 4) (pa_cons (pv 5) pa_nil))) (pa_cons (pe_k1 K e_NoHouse hr (by omega) (by rfl) (pa_cons (pv 4) pa_nil) 5) (pa_cons (pe_k1 K e_NoPath hr (by omega) (by rfl) (pa_cons (pv 4) pa_nil) 5) (pa_cons (pe_k2 K e_Refused hr (by omega) (by rfl) (pa_cons (pv 4) (pa_cons (pv 5) pa_nil))) pa_nil))))))))
      (pss_cons (ps_set (i := 6) nd rfl (Or.inl rfl) (pe_op op_cat (pv 6) (pe_lst (pa_cons (pe_k1 K e_NoIndex hr (by omega) (by rfl) (pa_cons (pv 4) pa_nil) 5) (pa_cons (pe_k0 K e_NoEdit hr (by omega) (by rfl) 4 5) (pa_cons (pe_k1 K e_NoText hr (by omega) (by rfl) (pa_cons (pv 4) pa_nil) 5) (pa_cons (pe_k1 K e_NoCommand hr (by omega) (by rfl) (pa_cons (pv 4) pa_nil) 5) pa_nil)))))))
      (pss_cons (ps_for PassesOwn.never rfl (pi_enum (by rfl) (by assumption) (pa_cons (pv 6) pa_nil)) (pg_tupK K (pg_tup rfl (pgs_cons (pg_name (i := 7) nd rfl (Or.inr rfl)) (pgs_cons (pg_name (i := 8) nd rfl (Or.inl rfl)) pgs_nil))))
        (pss_one (ps_if (PW.pt (pw_or (pt_cmpR (op_neD hu64) (pe_cc c_kinds hr (by omega) (by rfl) (pa_cons (pv 8) pa_nil)) (pe_lc (own := [("_law_place", 9)]) (g := (gName 9)) (tt := tYes) rfl nd (pi_range1 (by rfl) (by assumption) (pa_cons pe_int pa_nil)) (blkOk_by (N := N_law) (sc := defScope s_law) (by decide +kernel)) (fun _ _ _ _ _ => (pg_name (i := 9) nd rfl (Or.inl rfl))) (fun _ _ _ _ _ => pts_nil) (fun _ _ _ _ _ => (pe_cmpR op_eq (pv 9) (pv 7) (nomark _)))) (nomark _)) (pw_or1 (pt_cmpR op_ne (pe_cc c_catch hr (by omega) (by rfl) (pa_cons (pv 8) pa_nil)) (pe_ix (ix_listK K) (pv 1) (pv 7) (fun _ _ => rfl)) (nomark _)))))
        (pss_one (ps_ret pe_bl))
        pss_nil)))
      (pss_one (ps_if (pt_not (pt_val (pe_cc c_fields hr (by omega) (by rfl) (pa_cons (pv 4) (pa_cons (pv 5) pa_nil)))))
        (pss_one (ps_ret pe_bl))
        pss_nil)))))))))))
      (pss_one (ps_ret pe_bl))))))), ?_⟩
    clear m_NoBlob e_NoBlob m_NoData e_NoData m_NoName e_NoName m_NoMode e_NoMode m_NoTime e_NoTime m_NoSize e_NoSize m_NoPieces e_NoPieces m_NoBlock e_NoBlock m_NoMember e_NoMember m_TooMany e_TooMany m_Closed e_Closed m_NoOffset e_NoOffset m_Torn e_Torn m_Wrong e_Wrong m_NoHouse e_NoHouse m_NoPath e_NoPath m_Refused e_Refused m_NoIndex e_NoIndex m_NoEdit e_NoEdit m_NoText e_NoText m_NoCommand e_NoCommand
    walk_at "rd"
    rename_i p4 hp4 p3 hp3 p2 hp2 p1 hp1 B hB0
    refine r_lenG (fun H1 hH1 => ?_)
    have hB : H1 B = some (.lst basesL) := by rw [hH1]; exact upd_same
    have hBn : H B = none := ((((same_new hp4).trans (same_new hp3)).trans (same_new hp2)).trans (same_new hp1)).free hB0
    have eB : Same H H1 := fun b o eb => by
      rw [hH1, upd_ne (ne_of_none eb hBn)]
      exact (((((same_new hp4).trans (same_new hp3)).trans (same_new hp2)).trans (same_new hp1)).trans (same_new hB0)) b o eb
    clear hH1 hp4 hp3 hp2 hp1 hB0
    refine r_rLenQ (.inl (eB.seq hS)) ?_
    have hS1 := eB.seq hS
    walk_at "rd"
    refine for_it (walk_range (lo := 0) (n := _)) (fun i σ H' => ∃ v2 v3 v4 v5 v6 v7 v8 v9 : Option V, σ = [some (.ref a), some (.ref B), v2, v3, v4, v5, v6, v7, v8, v9] ∧ Same H1 H') ?_ (fun _ _ _ _ _ => True.intro) ?_ ?_
    · exact ⟨_, _, _, _, _, _, _, _, rfl, Same.refl _⟩
    · rintro i x σ Hc H' hi ⟨v2, v3, v4, v5, v6, v7, v8, v9, rfl, e1⟩ ⟨rfl, hx⟩
      simp only [Int.zero_add] at hx
      subst hx
      have hS2 := e1.seq hS1
      walk_at "rd"
      refine r_joinI (fun _ => True) (fun n _ => ?_) (fun Q' h hp => ?_) (fun Q' h hp => ?_)
      case refine_2 =>
        have hi2 : i < ns.length := by rw [List.length_map] at hp; omega
        refine r_op ?_
        refine r_cb ?_
        refine r_cons ?_
        refine r_op ?_
        refine r_var rfl ?_
        refine r_var rfl ?_
        refine r_ixL hS2 (by rw [at_nat, List.getElem?_map, List.getElem?_eq_getElem hi2]; rfl) ?_
        walk_at "rd"
        exact h _ True.intro
      case refine_3 =>
        walk_at "rd"
        exact h _ True.intro
      walk_at "rd"
      rename_i T1 h1 T2 h2 T3 h3 l4 hl4 e4 he4 T4 h4 c5 hc5 T5 h5 L hL
      refine for_it (walk_list (xs := [T1, T2, T3, T4, T5].map V.ref)) (fun j σ H' => ∃ v2 v3 v4 v5 v6 v7 v8 v9 : Option V, σ = [some (.ref a), some (.ref B), v2, v3, v4, v5, v6, v7, v8, v9] ∧ Same H1 H' ∧ H' L = some (.lst ([T1, T2, T3, T4, T5].map V.ref)) ∧ Paired (PPf K H') [T1, T2, T3, T4, T5] (prs n)) ?_ (fun j σ H' _ ⟨_, _, _, _, _, _, _, _, _, _, hl, _⟩ => SqL.of hl) ?_ ?_
      · refine ⟨_, _, _, _, _, _, _, _, rfl, ?_, upd_same, ?_⟩
        · exact ((((((((e1.trans (same_new h1)).trans (same_new h2)).trans (same_new h3)).trans (same_new hl4)).trans (same_new he4)).trans (same_new h4)).trans (same_new hc5)).trans (same_new h5)).trans (same_new hL)
        · refine .cons ⟨.int n, .str "a", by walk_at "lk", .int _, .str _⟩ (.cons ⟨.str "b", .int n, by walk_at "lk", .str _, .int _⟩ (.cons ⟨.non, .bl true, by walk_at "lk", .non, .bl _⟩ (.cons ⟨.ref l4, .ref e4, by walk_at "lk", .lst (SqL.of (by walk_at "lk")) (.cons (.int _) .nil), .tup (SqT.of (by walk_at "lk")) .nil⟩ (.cons ⟨.ref c5, .int 0, by walk_at "lk", .tup (SqT.of (by walk_at "lk")) (.cons (.str _) (.cons (.int _) .nil)), .int _⟩ .nil))))
      · rintro j x σ Hd H' hj ⟨v2, v3, v4, v5, v6, v7, v8, v9, rfl, e2, hLl, PP⟩ ⟨rfl, hx⟩
        rw [List.getElem?_map] at hx
        obtain ⟨qa, hqa, rfl⟩ : ∃ qa, [T1, T2, T3, T4, T5][j]? = some qa ∧ V.ref qa = x := by
          cases e : [T1, T2, T3, T4, T5][j]? with
          | none => rw [e] at hx; cases hx
          | some qa => rw [e] at hx; exact ⟨qa, rfl, Option.some.inj hx⟩
        obtain ⟨s', hs', v, o, ht, hv, ho⟩ := paired_at PP hqa
        obtain ⟨hd, hd', s1, q1, s2, q2⟩ := prs_ok n s' (List.mem_of_getElem? hs')
        obtain ⟨d, d'⟩ := s'
        dsimp only at hv ho hd hd' s1 q1 s2 q2
        refine r_gtup (SqT.of ht) rfl ?_
        refine r_gcons ?_
        refine r_gname ?_
        refine r_gcons ?_
        refine r_gname ?_
        refine r_gnil ?_
        refine r_seq ?_
        refine sm_first (Cs := [c.NoBlob, c.NoData, c.NoName, c.NoMode, c.NoTime, c.NoSize]) (iv := 4) (io := 5) (i := 6) (v := v) (o := o) (d := d) (d' := d') ⟨rfl, rfl, hv, hd, ho, hd'⟩ (by simp) (fun L1 G1 g1 f1 => ?_)
        have E1 : Same H' G1 := g1
        dsimp only
        refine r_seq ?_
        refine sm_more (Cs := [c.NoPieces, c.NoBlock, c.NoMember, c.TooMany, c.Closed, c.NoOffset]) (Ds := [c.NoBlob, c.NoData, c.NoName, c.NoMode, c.NoTime, c.NoSize]) (L := L1) (iv := 4) (io := 5) (i := 6) (v := v) (o := o) (d := d) (d' := d') ⟨rfl, rfl, Dp.sameD E1 hd hv, hd, Dp.sameD E1 hd' ho, hd'⟩ rfl f1 (by simp) (fun L2 G2 g2 f2 => ?_)
        have E2 : Same H' G2 := E1.trans g2
        dsimp only
        refine r_seq ?_
        refine sm_more (Cs := [c.Torn, c.Wrong, c.NoHouse, c.NoPath, c.Refused]) (Ds := [c.NoBlob, c.NoData, c.NoName, c.NoMode, c.NoTime, c.NoSize, c.NoPieces, c.NoBlock, c.NoMember, c.TooMany, c.Closed, c.NoOffset]) (L := L2) (iv := 4) (io := 5) (i := 6) (v := v) (o := o) (d := d) (d' := d') ⟨rfl, rfl, Dp.sameD E2 hd hv, hd, Dp.sameD E2 hd' ho, hd'⟩ rfl f2 (by simp) (fun L3 G3 g3 f3 => ?_)
        have E3 : Same H' G3 := E2.trans g3
        dsimp only
        refine r_seq ?_
        refine sm_more (Cs := [c.NoIndex, c.NoEdit, c.NoText, c.NoCommand]) (Ds := [c.NoBlob, c.NoData, c.NoName, c.NoMode, c.NoTime, c.NoSize, c.NoPieces, c.NoBlock, c.NoMember, c.TooMany, c.Closed, c.NoOffset, c.Torn, c.Wrong, c.NoHouse, c.NoPath, c.Refused]) (L := L3) (iv := 4) (io := 5) (i := 6) (v := v) (o := o) (d := d) (d' := d') ⟨rfl, rfl, Dp.sameD E3 hd hv, hd, Dp.sameD E3 hd' ho, hd'⟩ rfl f3 (by simp) (fun L4 G4 g4 f4 => ?_)
        have E4 : Same H' G4 := E3.trans g4
        obtain ⟨as, ha1, ha2⟩ := f4
        have ha2' : Paired (fun a C => XOb K G4 a C) as c.all := ha2
        have hlen : as.length = 21 := ha2'.length
        have hB4 : G4 B = some (.lst basesL) := E4 _ _ (e2 _ _ hB)
        dsimp only
        refine r_seq ?_
        refine r_for ?_
        refine r_iEnum ?_
        refine r_cons ?_
        refine r_var rfl ?_
        refine r_nil ?_
        refine ⟨L4, _, rfl, SqL.of ha1, ?_⟩
        refine for_it (walk_enum (xs := as.map V.ref)) (fun m σ H'' => ∃ w2 w3 w7 w8 w9 : Option V, σ = [some (.ref a), some (.ref B), w2, w3, some v, some o, some (.ref L4), w7, w8, w9] ∧ Same G4 H'') ?_ (fun m σ H'' _ ⟨_, _, _, _, _, _, e⟩ => SqL.of (e _ _ ha1)) ?_ ?_
        · exact ⟨_, _, _, _, _, rfl, Same.refl _⟩
        · rintro m x σ He H'' hm ⟨w2, w3, w7, w8, w9, rfl, e5⟩ ⟨TT, x1, y1, rfl, hTT, rfl, hx1, hy1⟩
          cases Option.some.inj hx1
          replace hy1 : (as.map V.ref)[m]? = some y1 := hy1
          rw [List.getElem?_map] at hy1
          obtain ⟨am, ham, rfl⟩ : ∃ am, as[m]? = some am ∧ V.ref am = y1 := by
            cases e : as[m]? with
            | none => rw [e] at hy1; cases hy1
            | some am => rw [e] at hy1; exact ⟨am, rfl, Option.some.inj hy1⟩
          obtain ⟨C, hC, hXO⟩ := paired_at ha2' ham
          obtain ⟨bm, hbm, hEM⟩ := paired_at E0.m hC
          obtain ⟨nmB, rB, rfl, hbs⟩ := bases_ok m bm hbm
          have e6 : Same G4 (upd He TT (.tup [.int (m : Int), .ref am])) := e5.trans (same_new hTT)
          have hTl : SqT K (upd He TT (.tup [.int (m : Int), .ref am])) TT [.int (m : Int), .ref am] := SqT.of upd_same
          generalize (upd He TT (.tup [.int (m : Int), .ref am])) = H6 at *
          have hX6 := hXO.same e6
          have hB6 := e6 _ _ hB4
          refine r_gtup hTl rfl ?_
          refine r_gcons ?_
          refine r_gname ?_
          refine r_gcons ?_
          refine r_gname ?_
          refine r_gnil ?_
          walk_at "rd"
          refine ⟨am, C, rfl, hX6, List.mem_of_getElem? hC, fun K1 H7 e7 hk1 => ?_⟩
          rw [show (c.all.map fun D => V.bl (decide (C = D))) = (c.all.map fun D => decide (C = D)).map V.bl by rw [List.map_map]; rfl, nodup_row E0.nd hC] at hk1
          walk_at "rd"
          intro D hD
          refine lc_map (cs := List.range 21) (enc := fun (i : Nat) => V.int (i : Int)) (f := fun (i : Nat) => V.bl (decide (i = m))) walk_rangeN hD (by decide) (fun _ _ => True.intro) (fun _ => rfl) ?_ ?_
          · intro i hi H8 e8 Q2 k2
            walk_at "rd"
            rw [show decide (V.int (i : Int) = V.int (m : Int)) = decide (i = m) by rw [Bool.eq_iff_iff]; simp; omega]
            exact k2 _ (Same.refl _)
          · intro H8 e8 hb8
            have e8' : Same H7 H8 := e8
            rw [show ((List.range 21).map fun (i : Nat) => V.bl (decide (i = m))) = ((List.range 21).map fun (i : Nat) => decide (i = m)).map V.bl by rw [List.map_map]; rfl] at hb8
            refine r_neB (e8' _ _ hk1) hb8 ?_
            walk_at "rd"
            refine ⟨am, C, _, nmB, rB, rfl, (hX6.same e7).same e8', hEM, List.mem_of_getElem? hbm, rfl, ?_⟩
            have hB8 := e8' _ _ (e7 _ _ hB6)
            walk_at "rd"
            refine r_ixL (SqL.of hB8) (by rw [at_nat]; exact hbs) ?_
            refine r_ne rfl ?_
            rw [decide_eq_true rfl]
            walk_at "rd"
            exact ⟨_, _, _, _, _, rfl, (e6.trans e7).trans e8'⟩
        · rintro σ He ⟨w2, w3, w7, w8, w9, rfl, e5⟩
          have E5 : Same H' He := E4.trans e5
          walk_at "rd"
          refine ⟨v, o, d, d', rfl, Dp.sameD E5 hd hv, hd, Dp.sameD E5 hd' ho, hd', s1, q1, s2, q2, fun H9 e9 => ?_⟩
          walk_at "rd"
          refine ⟨_, _, _, _, _, _, _, _, rfl, (e2.trans E5).trans e9, e9 _ _ (E5 _ _ hLl), PPf.all (fun s hs => ⟨(prs_ok n s hs).1, (prs_ok n s hs).2.1⟩) (E5.trans e9) PP⟩
      · rintro σ Hd ⟨v2, v3, v4, v5, v6, v7, v8, v9, rfl, e2, _⟩
        exact ⟨_, _, _, _, _, _, _, _, rfl, e2⟩
    · rintro σ Hc ⟨v2, v3, v4, v5, v6, v7, v8, v9, rfl, e1⟩
      walk_at "rd"
      exact q _
end
end Th
namespace Th
open PySem PySem.Spec PyProof.Rows L2
local macro_rules | `(tactic| walk_at "lk") => `(tactic| first
  | assumption
  | exact upd_same
  | (refine upd_old (by assumption) ?_; walk_at "lk")
  | (refine upd_diff (by assumption) ?_; walk_at "lk")
  | (refine upd_diff (Ne.symm (by assumption)) ?_; walk_at "lk"))
local macro_rules | `(tactic| walk_at "cnd") => `(tactic| first
  | omega
  | (refine ⟨by omega, by omega⟩)
  | (refine ⟨by omega, by omega, by omega⟩)
  | (refine .inl ⟨by omega, by omega⟩)
  | (refine .inr ⟨by omega, by omega⟩)
  | (exact (show CPow _ _ from ⟨by decide, by decide, by omega⟩))
  | decide +kernel
  | (unfold CMulW; decide +kernel)
  | (exact wide_div (b := 64) (by omega) (by omega) (by decide) (by decide)))
local macro_rules | `(tactic| walk_at "rd1") => `(tactic| first
  | (with_reducible refine r_seq ?_)
  | (with_reducible refine r_asg ?_)
  | (with_reducible refine r_ret ?_)
  | (with_reducible refine r_if ?_)
  | (with_reducible refine r_gname ?_)
  | ((with_reducible refine' r_var ?hv ?_); (case hv => exact rfl))
  | (with_reducible refine r_c ?_)
  | (with_reducible refine r_op ?_)
  | (with_reducible refine r_I0 ?_)
  | ((with_reducible refine r_I ?hc ?_); (case hc => walk_at "cnd"))
  | (with_reducible refine r_test ?_)
  | (with_reducible refine r_tB ?_)
  | (with_reducible refine r_bl ?_)
  | (with_reducible refine r_not ?_)
  | (with_reducible refine r_and ?_)
  | (with_reducible refine r_or ?_)
  | (with_reducible refine r_ifE ?_)
  | (with_reducible refine r_notV ?_)
  | (with_reducible refine r_andV ?_)
  | (with_reducible refine r_orV ?_)
  | (with_reducible refine r_chain ?_)
  | (with_reducible refine r_cb ?_)
  | (with_reducible refine r_call ?_)
  | (with_reducible refine r_callN ?_)
  | (with_reducible refine r_nil ?_)
  | (with_reducible refine r_cons ?_)
  | ((with_reducible refine r_lst ?_))
  | ((with_reducible refine r_tup ?_))
  | ((with_reducible refine r_new ?_ ?_); (exact Nat.le_of_ble_eq_true rfl); (intro p hp))
  | (with_reducible refine r_rInt1 ?_)
  | (with_reducible refine r_rIntB ?_)
  | (with_reducible refine r_rAbs ?_)
  | (with_reducible refine r_rMin2 ?_)
  | (with_reducible refine r_rMax2 ?_)
  | ((with_reducible refine r_rLenZ ?hz ?_); (case hz => first | assumption | exact Nat.le_of_ble_eq_true rfl | (refine Nat.le_trans ?_ (by decide : 100000 ≤ sizeLine); omega)))
  | ((with_reducible refine r_addZ ?hz ?_); (case hz => (refine Nat.le_trans ?_ (by decide : 100000 ≤ sizeLine); first | omega | (simp only [Str.length] at *; simp; omega))))
  | ((with_reducible refine r_mulZ ?hz ?h0 ?h1 ?_); (case hz => first | omega | exact Nat.le_of_ble_eq_true rfl); (case h0 => omega); (case h1 => omega))
  | ((with_reducible refine' r_rLenQ ?h1 ?_); (case h1 => first | (exact .inl (by assumption)) | (exact .inr (by assumption)) | (exact .inl (SqL.of (by walk_at "lk"))) | (exact .inr (SqT.of (by walk_at "lk")))))
  | ((with_reducible refine r_eq ?hs ?_); (case hs => exact rfl))
  | ((with_reducible refine r_ne ?hs ?_); (case hs => exact rfl))
  | (with_reducible refine r_inC ?_)
  | ((with_reducible refine' r_cat ?h1 ?h2 ?h3 ?_); (case h1 => walk_at "lk"); (case h2 => walk_at "lk"); (case h3 => exact Nat.le_of_ble_eq_true rfl); (intro p hp))
  | ((with_reducible refine' r_rep ?h1 ?h2 ?h3 ?h4 ?_); (case h1 => walk_at "lk"); (case h2 => omega); (case h3 => omega); (case h4 => exact Nat.le_of_ble_eq_true rfl); (intro p hp))
  | ((with_reducible refine' r_append ?h1 ?h2 ?_); (case h1 => walk_at "lk"); (case h2 => first | exact (show _ + 1 ≤ sizeLine from Nat.le_of_ble_eq_true rfl) | exact Nat.lt_of_le_of_lt (by omega : _ ≤ 100000) (by decide)))
  | (with_reducible refine r_bm ?_)
  | ((with_reducible refine' r_tyL ?h1 ?_); (case h1 => walk_at "lk"))
  | ((with_reducible refine' r_ixL ?h1 ?h2 ?_); (case h1 => first | assumption | exact SqL.of (by walk_at "lk")); (case h2 => exact rfl))
  | ((with_reducible refine' r_ixT ?h1 ?h2 ?_); (case h1 => first | assumption | exact SqT.of (by walk_at "lk")); (case h2 => exact rfl))
  | (with_reducible refine r_gsub ?_)
  | ((with_reducible refine' r_setL ?h1 ?h2 ?_); (case h1 => walk_at "lk"); (case h2 => exact rfl))
  | (with_reducible refine r_un ?_)
  | (with_reducible refine r_neg ?_)
  | (with_reducible refine r_iteT ?_)
  | (with_reducible refine r_iteNT ?_)
  | (with_reducible refine r_iteNF ?_)
  | (with_reducible refine r_iteF ?_)
  | (with_reducible refine r_next ?_)
  | (with_reducible refine r_drop ?_)
  | (with_reducible refine r_cont ?_)
  | (with_reducible refine r_brk ?_))
local macro_rules | `(tactic| walk_at "ty") => `(tactic| first
  | assumption
  | exact .base (.int _)
  | exact .base (.str _)
  | exact .base (.bl _)
  | exact .base .non
  | exact .byt _
  | exact .base (.lst (by walk_at "lk"))
  | exact .base (.tup (by walk_at "lk")))
local macro_rules | `(tactic| walk_at "rd2") => `(tactic| first
  | walk_at "rd1"
  | ((with_reducible refine' r_isi true ?ht ?hk ?_); (case ht => walk_at "ty"); (case hk => first | assumption | decide +kernel))
  | ((with_reducible refine' r_isi false ?ht ?hk ?_); (case ht => walk_at "ty"); (case hk => first | assumption | decide +kernel))
  | ((with_reducible refine' r_isiT2 true true ?hT ?ht ?hk ?hk2 ?_); (case hT => walk_at "lk"); (case ht => walk_at "ty"); (case hk => decide +kernel); (case hk2 => decide +kernel))
  | ((with_reducible refine' r_isiT2 true false ?hT ?ht ?hk ?hk2 ?_); (case hT => walk_at "lk"); (case ht => walk_at "ty"); (case hk => decide +kernel); (case hk2 => decide +kernel))
  | ((with_reducible refine' r_isiT2 false true ?hT ?ht ?hk ?hk2 ?_); (case hT => walk_at "lk"); (case ht => walk_at "ty"); (case hk => decide +kernel); (case hk2 => decide +kernel))
  | ((with_reducible refine' r_isiT2 false false ?hT ?ht ?hk ?hk2 ?_); (case hT => walk_at "lk"); (case ht => walk_at "ty"); (case hk => decide +kernel); (case hk2 => decide +kernel))
  | (with_reducible refine r_iteNT ?_)
  | ((show (if (!true) = true then _ else _)); refine r_iteNT ?_)
  | (with_reducible refine r_r1 ?_)
  | (with_reducible refine r_maks ?_)
  | (with_reducible refine r_sfld ?_)
  | ((with_reducible refine' r_sfldE ?h1 ?h2 ?h3 ?h4 ?_); (case h1 => walk_at "lk"); (case h2 => assumption); (case h3 => assumption); (case h4 => exact (show _ + 1 ≤ 1000 from Nat.le_of_ble_eq_true rfl)))
  | (with_reducible refine r_fld ?_)
  | (with_reducible refine r_join ?_)
  | (with_reducible refine r_jcons ?_)
  | (with_reducible refine r_jnil ?_)
  | ((with_reducible refine r_rLenY ?hz ?_); (case hz => first | assumption | (refine Nat.le_trans ?_ (by decide : 100000 ≤ sizeLine); omega)))
  | (with_reducible refine r_par ?_)
  | (with_reducible refine r_pair ?_)
  | (with_reducible refine r_par3 ?_)
  | (with_reducible refine r_trip ?_)
  | ((with_reducible refine' r_gtup ?h1 ?h2 ?_); (case h1 => first | assumption | exact SqT.of (by walk_at "lk")); (case h2 => exact rfl))
  | (with_reducible refine r_gcons ?_)
  | (with_reducible refine r_gnil ?_)
  | ((with_reducible refine' r_slL ?h1 ?_); (case h1 => first | assumption | exact SqL.of (by walk_at "lk")); (intro p hp))
  | (with_reducible refine r_iTup ?_)
  | ((with_reducible refine' r_tupE ?h1 ?_); (case h1 => first | assumption | exact SqT.of (by walk_at "lk")))
  | (with_reducible refine r_m1 ?_)
  | (with_reducible refine r_isZ ?_)
  | (with_reducible refine r_sl ?_)
  | (with_reducible refine r_noPart ?_)
  | (with_reducible refine r_part ?_)
  | (with_reducible refine r_partE ?_)
  | ((with_reducible refine r_slS ?hz ?_); (case hz => first | assumption | (refine Nat.le_trans ?_ (by decide : 100000 ≤ sizeLine); omega)))
  | ((with_reducible refine' r_inT ?h1 ?h2 ?h3 ?_); (case h1 => first | assumption | (exact SqT.of (by walk_at "lk"))); (case h2 => exact rfl); (case h3 => exact rfl))
  | ((with_reducible refine' r_inL ?h1 ?h2 ?h3 ?_); (case h1 => first | assumption | (exact SqL.of (by walk_at "lk"))); (case h2 => exact rfl); (case h3 => exact rfl))
  | (with_reducible refine r_lc ?_)
  | (with_reducible refine r_for ?_)
  | (with_reducible refine r_iStr ?_)
  | (with_reducible refine r_strE ?_)
  | (with_reducible refine r_iList ?_)
  | ((with_reducible refine' r_listE ?h1 ?_); (case h1 => first | assumption | exact SqL.of (by walk_at "lk")))
  | (with_reducible refine r_iRng1 ?_)
  | ((with_reducible refine' r_rngE ?h0 ?h1 ?_); (case h0 => first | omega | (split <;> omega)); (case h1 => first | omega | (split <;> omega))))
local macro_rules | `(tactic| walk_at "rd") => `(tactic| (repeat walk_at "rd2"))
local macro_rules | `(tactic| walk_at "st") => `(tactic| (repeat (first
  | (with_reducible refine r_gname ?_)
  | (with_reducible refine r_next ?_)
  | (with_reducible refine r_seq ?_)
  | (with_reducible refine r_asg ?_)
  | (with_reducible refine r_ret ?_)
  | (with_reducible refine r_for ?_)
  | (with_reducible refine r_iRng1 ?_)
  | (with_reducible refine r_iList ?_)
  | (with_reducible refine r_cons ?_)
  | (with_reducible refine r_par ?_)
  | (with_reducible refine r_par3 ?_))))
/-! ### what the top has written -/
structure DefF (K : PySem.W.Frag) (x : Str) (st : Stmt) (f : Addr) : Prop where
  ns : PySem.W.nsIn K mainGlobals x = some (some (.ref f))
  fn : ∃ (oc : Value) (od an : Option Addr) (kV doc pm cdv ct : Value) (osl : Array (Option Value)), K.lookup f = some ⟨oc, od, .func (PySem.W.fnOf x x (defArgs st) (defBody st) (defScope st) .none kV doc pm an cdv ct), osl⟩ ∧ PySem.W.codeIn K cdv x = true
  kp : PySem.W.keepIn K (.ref f) = true
theorem defF_mk {K : PySem.W.Frag} {x : Str} {st : Stmt} {f : Addr} {oc : Value} {od an : Option Addr} {kV doc pm cdv ct : Value} {osl : Array (Option Value)} (a : PySem.W.nsIn K mainGlobals x = some (some (.ref f)))
    (l : K.lookup f = some ⟨oc, od, .func (PySem.W.fnOf x x (defArgs st) (defBody st) (defScope st) .none kV doc pm an cdv ct), osl⟩) (c : PySem.W.codeIn K cdv x = true) (k : PySem.W.keepIn K (.ref f) = true) : DefF K x st f :=
  ⟨a, ⟨oc, od, an, kV, doc, pm, cdv, ct, osl, l, c⟩, k⟩
theorem DefF.fun_ {K : PySem.W.Frag} {x : Str} {st : Stmt} {f : Addr} (d : DefF K x st f) : ∃ fd, Fun K x x st f fd := by
  obtain ⟨oc, od, an, kV, doc, pm, cdv, ct, osl, l, c⟩ := d.fn
  exact ⟨_, fun_mk l c d.kp⟩
section
variable {P : Program} {w : World} {K : PySem.W.Frag} {mg : Str → Option Value} {base : Heap}
theorem cal_mk {h : Heap} {x : Str} {st : Stmt} {f : Addr} {ps : List Str} {k : Nat} {sp : Sp} (X : K.In h) (G : h.Ns mainGlobals mg) (d : DefF K x st f)
    (hb : ∀ (kV doc pm : Value) (an : Option Addr) (cdv ct : Value) (us : List Value), us.length = ps.length → bindArgs (PySem.W.fnOf x x (defArgs st) (defBody st) (defScope st) .none kV doc pm an cdv ct) ⟨us, []⟩ = pure (ps.zip us))
    (ok : ∀ fd, Fun K x x st f fd → FnOk P w K mg base CX0 k f fd ps sp) : CalT P w K mg base k x sp := by
  obtain ⟨fd, F⟩ := d.fun_
  exact ⟨f, fd, ps, ok fd F, PySem.W.mg_of X G d.ns, d.kp, F.binds hb⟩
theorem calk_mk {h : Heap} {x : Str} {st : Stmt} {f : Addr} {ps : List Str} {k : Nat} {sp : Sp} {n1 : Str} (X : K.In h) (G : h.Ns mainGlobals mg) (d : DefF K x st f)
    (hb : ∀ (kV doc pm : Value) (an : Option Addr) (cdv ct : Value) (u : Value), bindArgs (PySem.W.fnOf x x (defArgs st) (defBody st) (defScope st) .none kV doc pm an cdv ct) ⟨[], [(n1, u)]⟩ = pure (ps.zip [u]))
    (ok : ∀ fd, Fun K x x st f fd → FnOk P w K mg base CX0 k f fd ps sp) : CalK P w K mg base k x [n1] sp := by
  obtain ⟨fd, F⟩ := d.fun_
  refine ⟨f, fd, ps, ok fd F, PySem.W.mg_of X G d.ns, d.kp, ⟨?_, fun r1 r2 => r1.append r2⟩⟩
  obtain ⟨oc, od, kV, doc, pm, an, cdv, ct, osl, rfl, lk, hcd⟩ := F.ex
  intro s us ws _ h1 h2
  match us, ws, h1, h2 with
  | [], [u], _, _ => exact .of_eq (hb kV doc pm an cdv ct u)
end
structure ExF (K : PySem.W.Frag) (x qual : Str) (C fI : Addr) (bm : List Value) (st : Stmt) (fs : List Str) : Prop where
  ns : PySem.W.nsIn K mainGlobals x = some (some (.ref C))
  g : ExG K C fI
  m : ExM K C bm
  na : ∀ f ∈ fs, PySem.W.findIn K (.ref C) f = some none
  fn : ∃ (oc : Value) (od an : Option Addr) (kV doc pm cdv ct : Value) (osl : Array (Option Value)), K.lookup fI = some ⟨oc, od, .func (PySem.W.fnOf "__init__" qual (defArgs st) (defBody st) (defScope st) .none kV doc pm an cdv ct), osl⟩ ∧ PySem.W.codeIn K cdv qual = true
  kp : PySem.W.keepIn K (.ref fI) = true
theorem exF_mk {K : PySem.W.Frag} {x qual : Str} {C fI : Addr} {bm : List Value} {st : Stmt} {fs : List Str} {B newId initId B' : String} {bmA : List Value} {cd : ClassData} {oc : Value} {od an : Option Addr} {kV doc pm cdv ct : Value} {osl : Array (Option Value)}
    (FB : PySem.ExcBaseFacts B newId initId bmA) (SF : PySem.StoreFacts B' bm "object.__setattr__" "object") (t : bm.contains (.type B) = true ∧ bm.contains (.type "AttributeError") = false ∧ bm.contains (.type "NameError") = false)
    (ns : PySem.W.nsIn K mainGlobals x = some (some (.ref C))) (hin : PySem.W.excInitIn K C bm newId = true) (hov : PySem.W.excOver K C bm = true)
    (sa : PySem.W.findIn K (.ref C) "__setattr__" = some (some (.builtin "object.__setattr__"))) (iC : PySem.W.findIn K (.ref C) "__init__" = some (some (.ref fI))) (tI : PySem.W.typeIn K (.ref fI) = some (.type "function")) (kC : PySem.W.keepIn K (.ref C) = true)
    (ga : PySem.W.findIn K (.ref C) "__getattribute__" = some (some (.builtin "BaseException.__getattribute__"))) (gg : PySem.W.findIn K (.ref C) "__getattr__" = some none) (exC : PySem.W.subIn K (.ref C) (.type "BaseException") = some true) (hd : PySem.W.hasDictIn K C = true)
    (ha : PySem.W.findIn K (.ref C) "__class__" = some (some (.builtin "object.__class__"))) (hn : PySem.W.specialIn K (.builtin "object.__class__") "__get__" = some (some (.builtin "getset_descriptor.__get__"))) (ht : PySem.W.takesIn K (.builtin "object.__class__") = some true) (hm : PySem.W.mroIn K C (.type "object") = some true)
    (hcd : PySem.W.clsIn K C = some cd) (hmro : cd.mro = .ref C :: bm) (ty : PySem.W.typeIn K (.ref C) = some (.type "type"))
    (l : K.lookup fI = some ⟨oc, od, .func (PySem.W.fnOf "__init__" qual (defArgs st) (defBody st) (defScope st) .none kV doc pm an cdv ct), osl⟩) (c : PySem.W.codeIn K cdv qual = true) (k : PySem.W.keepIn K (.ref fI) = true)
    (na : ∀ f ∈ fs, PySem.W.findIn K (.ref C) f = some none) : ExF K x qual C fI bm st fs :=
  ⟨ns, ⟨⟨B, newId, initId, bmA, B', bm, FB, SF, hin, hov, t.1, t.2.1, t.2.2⟩, sa, iC, tI, kC, ga, gg, exC, hd, ha, hn, ht, hm⟩, ⟨⟨cd, hcd, hmro⟩, ty⟩, na, ⟨oc, od, an, kV, doc, pm, cdv, ct, osl, l, c⟩, k⟩
section
variable {P : Program} {w : World} {K : PySem.W.Frag} {mg : Str → Option Value} {base : Heap} {x qual : Str} {C fI : Addr} {bm : List Value} {st : Stmt}
theorem false_ok {f : Addr} {fd : FuncData} (F : Fun K "copied" "copied" s_copied f fd) : FnOk P w K mg base CX0 0 f fd ["thing"] (fun _ _ _ _ => False) :=
  ⟨fun _ _ _ _ h => h.elim, fun _ _ _ _ _ _ _ _ _ _ _ _ _ h => h.elim⟩
theorem fnS_pos {k : Nat} {f : Addr} {fd : FuncData} {ps : List Str} {sp : Sp} (F : FnOk P w K mg base CX0 k f fd ps sp) (hb : Binds K fd ps []) : FnS P w K mg base k f [] (fun vs zs H Q => zs = [] ∧ ∀ E, sp (vs ++ []) H Q E) := by
  intro A outer s H us ws vs zs Q E hr e0 rv rz hw ⟨hz, h⟩
  have KX : K.In s.heap := e0.mod.kin.keeps fun b o e => (e0.bs b o e).1
  subst hz
  cases rz
  have r2 := rv.append (Paired.nil : Vals [] [])
  exact F.run A outer s H _ (us ++ []) (vs ++ []) Q E hr e0 (hb s us KX (r2.length.symm.trans (F.len _ _ _ _ (h E)))) r2 (h E)
theorem me0 (e : ExF K x qual C fI bm st []) (ok : ∀ fd, Fun K "__init__" qual st fI fd → FnOk P w K mg base CX0 3 fI fd ["self"] (spI0 C)) (hm : mg x = some (.ref C))
    (hb : ∀ (kV doc pm : Value) (an : Option Addr) (cdv ct : Value) (us : List Value), us.length = (["self"] : List Str).length → bindArgs (PySem.W.fnOf "__init__" qual (defArgs st) (defBody st) (defScope st) .none kV doc pm an cdv ct) ⟨us, []⟩ = pure ((["self"] : List Str).zip us)) : ME0 P w K mg base 3 x C := by
  obtain ⟨oc, od, an, kV, doc, pm, cdv, ct, osl, l, c⟩ := e.fn
  have F := fun_mk l c e.kp
  exact ⟨fI, e.g, fI, e.g, fnS_pos (ok _ F) (F.binds hb), hm⟩
theorem me1 {f : Str} (e : ExF K x qual C fI bm st [f]) (ok : ∀ fd, Fun K "__init__" qual st fI fd → FnOk P w K mg base CX0 3 fI fd ["self", f] (spI1 K C f)) (hm : mg x = some (.ref C))
    (hb : ∀ (kV doc pm : Value) (an : Option Addr) (cdv ct : Value) (us : List Value), us.length = (["self", f] : List Str).length → bindArgs (PySem.W.fnOf "__init__" qual (defArgs st) (defBody st) (defScope st) .none kV doc pm an cdv ct) ⟨us, []⟩ = pure ((["self", f] : List Str).zip us))
    (hk : ∀ (kV doc pm : Value) (an : Option Addr) (cdv ct : Value) (u v : Value), bindArgs (PySem.W.fnOf "__init__" qual (defArgs st) (defBody st) (defScope st) .none kV doc pm an cdv ct) ⟨[u], [(f, v)]⟩ = pure ((["self", f] : List Str).zip [u, v])) : ME1 P w K mg base 3 x C f := by
  obtain ⟨oc, od, an, kV, doc, pm, cdv, ct, osl, l, c⟩ := e.fn
  have F := fun_mk l c e.kp
  refine ⟨fI, e.g, e.na f List.mem_cons_self, ⟨fI, e.g, fnS_pos (ok _ F) (F.binds hb), hm⟩, ⟨fI, e.g, fnS_of (ok _ F) ⟨?_, fun r1 r2 => r1.append r2⟩, hm⟩⟩
  intro s us ws X h1 h2
  match us, ws, h1, h2 with
  | [u], [v], _, _ => exact .of_eq (hk kV doc pm an cdv ct u v)
theorem me2 {f g : Str} (hfg : f ≠ g) (e : ExF K x qual C fI bm st [f, g]) (ok : ∀ fd, Fun K "__init__" qual st fI fd → FnOk P w K mg base CX0 3 fI fd ["self", f, g] (spI2 K C f g)) (hm : mg x = some (.ref C))
    (hb : ∀ (kV doc pm : Value) (an : Option Addr) (cdv ct : Value) (us : List Value), us.length = (["self", f, g] : List Str).length → bindArgs (PySem.W.fnOf "__init__" qual (defArgs st) (defBody st) (defScope st) .none kV doc pm an cdv ct) ⟨us, []⟩ = pure ((["self", f, g] : List Str).zip us))
    (hk : ∀ (kV doc pm : Value) (an : Option Addr) (cdv ct : Value) (u o v : Value), bindArgs (PySem.W.fnOf "__init__" qual (defArgs st) (defBody st) (defScope st) .none kV doc pm an cdv ct) ⟨[u], [(g, o), (f, v)]⟩ = pure ((["self", f, g] : List Str).zip [u, v, o])) : ME2 P w K mg base 3 x C f g := by
  obtain ⟨oc, od, an, kV, doc, pm, cdv, ct, osl, l, c⟩ := e.fn
  have F := fun_mk l c e.kp
  refine ⟨fI, e.g, e.na f List.mem_cons_self, e.na g (List.mem_cons_of_mem _ List.mem_cons_self), hfg, ⟨fI, e.g, fnS_pos (ok _ F) (F.binds hb), hm⟩, ⟨fI, e.g, ?_, hm⟩⟩
  intro A outer s H us ws vs zs Q E hr e0 rv rz hw ⟨a, o, v, hv, hz, h⟩
  subst hv hz
  obtain ⟨u, rfl, ru⟩ := rv.one
  obtain ⟨uo, uv, rfl, ro, rv2⟩ := vals2 rz
  exact (ok _ F).run A outer s H _ [u, uv, uo] [a, v, o] Q E hr e0 (.of_eq (hk kV doc pm an cdv ct u uo uv)) (.cons ru (.cons rv2 (.cons ro .nil))) (h E)
theorem all_mk {l : PySem.W.OpenLaw} {w : World} {K : PySem.W.Frag} {h : Heap} {mg : Str → Option Value} {fa f_law f_copied f__law_catch f__law_kinds f__law_fields_right aNoBlob iNoBlob aNoData iNoData aNoName iNoName aNoMode iNoMode aNoTime iNoTime aNoSize iNoSize aNoPieces iNoPieces aNoBlock iNoBlock aNoMember iNoMember aTooMany iTooMany aClosed iClosed aNoOffset iNoOffset aTorn iTorn aWrong iWrong aNoHouse iNoHouse aNoPath iNoPath aRefused iRefused aNoIndex iNoIndex aNoEdit iNoEdit aNoText iNoText aNoCommand iNoCommand : Addr} (X : K.In h) (G : h.Ns mainGlobals mg) (hfa : mg "law" = some (.ref fa))
    (d_law : DefF K "law" s_law f_law)
    (d_copied : DefF K "copied" s_copied f_copied)
    (d__law_catch : DefF K "_law_catch" s__law_catch f__law_catch)
    (d__law_kinds : DefF K "_law_kinds" s__law_kinds f__law_kinds)
    (d__law_fields_right : DefF K "_law_fields_right" s__law_fields_right f__law_fields_right)
    (xNoBlob : ExF K "NoBlob" "NoBlob.__init__" aNoBlob iNoBlob mT s_NoBlob___init__ ["numbers"])
    (xNoData : ExF K "NoData" "NoData.__init__" aNoData iNoData mT s_NoData___init__ ["thing"])
    (xNoName : ExF K "NoName" "NoName.__init__" aNoName iNoName mV s_NoName___init__ ["name"])
    (xNoMode : ExF K "NoMode" "NoMode.__init__" aNoMode iNoMode mV s_NoMode___init__ ["mode"])
    (xNoTime : ExF K "NoTime" "NoTime.__init__" aNoTime iNoTime mO s_NoTime___init__ ["time"])
    (xNoSize : ExF K "NoSize" "NoSize.__init__" aNoSize iNoSize mV s_NoSize___init__ ["size"])
    (xNoPieces : ExF K "NoPieces" "NoPieces.__init__" aNoPieces iNoPieces mV s_NoPieces___init__ ["pieces"])
    (xNoBlock : ExF K "NoBlock" "NoBlock.__init__" aNoBlock iNoBlock mT s_NoBlock___init__ ["thing"])
    (xNoMember : ExF K "NoMember" "NoMember.__init__" aNoMember iNoMember mT s_NoMember___init__ ["thing"])
    (xTooMany : ExF K "TooMany" "TooMany.__init__" aTooMany iTooMany mO s_TooMany___init__ ["limit"])
    (xClosed : ExF K "Closed" "Closed.__init__" aClosed iClosed mR s_Closed___init__ [])
    (xNoOffset : ExF K "NoOffset" "NoOffset.__init__" aNoOffset iNoOffset mI s_NoOffset___init__ ["offset"])
    (xTorn : ExF K "Torn" "Torn.__init__" aTorn iTorn mV s_Torn___init__ ["offset"])
    (xWrong : ExF K "Wrong" "Wrong.__init__" aWrong iWrong mV s_Wrong___init__ ["offset", "field"])
    (xNoHouse : ExF K "NoHouse" "NoHouse.__init__" aNoHouse iNoHouse mT s_NoHouse___init__ ["given"])
    (xNoPath : ExF K "NoPath" "NoPath.__init__" aNoPath iNoPath mY s_NoPath___init__ ["path"])
    (xRefused : ExF K "Refused" "Refused.__init__" aRefused iRefused mR s_Refused___init__ ["index", "word"])
    (xNoIndex : ExF K "NoIndex" "NoIndex.__init__" aNoIndex iNoIndex mI s_NoIndex___init__ ["index"])
    (xNoEdit : ExF K "NoEdit" "NoEdit.__init__" aNoEdit iNoEdit mL s_NoEdit___init__ [])
    (xNoText : ExF K "NoText" "NoText.__init__" aNoText iNoText mV s_NoText___init__ ["text"])
    (xNoCommand : ExF K "NoCommand" "NoCommand.__init__" aNoCommand iNoCommand mV s_NoCommand___init__ ["command"])
    (nd : [aNoBlob, aNoData, aNoName, aNoMode, aNoTime, aNoSize, aNoPieces, aNoBlock, aNoMember, aTooMany, aClosed, aNoOffset, aTorn, aWrong, aNoHouse, aNoPath, aRefused, aNoIndex, aNoEdit, aNoText, aNoCommand].Nodup)
    (z : ∀ b ∈ (["isinstance", "list", "tuple", "dict", "LookupError", "KeyError", "IndexError", "ArithmeticError", "OverflowError", "ValueError", "TypeError", "RuntimeError", "all", "range", "max", "min", "len", "int", "enumerate"] : List Str), PySem.W.nsIn K mainGlobals b = some none) :
    ∃ fd : FuncData, (∀ (s : Shared) (v : Value), BindsTo s fd ⟨[v], []⟩ [("_law_script", v)]) ∧ ∀ base : Heap, K.In base → base.Ns mainGlobals mg → FnG l.prog w K mg base 6 fa fd ["_law_script"] (spLaw K) := by
  have e := hfa.symm.trans (PySem.W.mg_of X G d_law.ns)
  cases e
  have bs : ∀ b ∈ (["isinstance", "list", "tuple", "dict", "LookupError", "KeyError", "IndexError", "ArithmeticError", "OverflowError", "ValueError", "TypeError", "RuntimeError", "all", "range", "max", "min", "len", "int", "enumerate"] : List Str), mg b = none := fun b hb => PySem.W.mg_none_of X G (z b hb)
  have b_isinstance : mg "isinstance" = none := bs _ (by simp)
  have b_list : mg "list" = none := bs _ (by simp)
  have b_tuple : mg "tuple" = none := bs _ (by simp)
  have b_dict : mg "dict" = none := bs _ (by simp)
  have b_LookupError : mg "LookupError" = none := bs _ (by simp)
  have b_KeyError : mg "KeyError" = none := bs _ (by simp)
  have b_IndexError : mg "IndexError" = none := bs _ (by simp)
  have b_ArithmeticError : mg "ArithmeticError" = none := bs _ (by simp)
  have b_OverflowError : mg "OverflowError" = none := bs _ (by simp)
  have b_ValueError : mg "ValueError" = none := bs _ (by simp)
  have b_TypeError : mg "TypeError" = none := bs _ (by simp)
  have b_RuntimeError : mg "RuntimeError" = none := bs _ (by simp)
  have b_all : mg "all" = none := bs _ (by simp)
  have b_range : mg "range" = none := bs _ (by simp)
  have b_max : mg "max" = none := bs _ (by simp)
  have b_min : mg "min" = none := bs _ (by simp)
  have b_len : mg "len" = none := bs _ (by simp)
  have b_int : mg "int" = none := bs _ (by simp)
  have b_enumerate : mg "enumerate" = none := bs _ (by simp)
  have g_NoBlob := PySem.W.mg_of X G xNoBlob.ns
  have g_NoData := PySem.W.mg_of X G xNoData.ns
  have g_NoName := PySem.W.mg_of X G xNoName.ns
  have g_NoMode := PySem.W.mg_of X G xNoMode.ns
  have g_NoTime := PySem.W.mg_of X G xNoTime.ns
  have g_NoSize := PySem.W.mg_of X G xNoSize.ns
  have g_NoPieces := PySem.W.mg_of X G xNoPieces.ns
  have g_NoBlock := PySem.W.mg_of X G xNoBlock.ns
  have g_NoMember := PySem.W.mg_of X G xNoMember.ns
  have g_TooMany := PySem.W.mg_of X G xTooMany.ns
  have g_Closed := PySem.W.mg_of X G xClosed.ns
  have g_NoOffset := PySem.W.mg_of X G xNoOffset.ns
  have g_Torn := PySem.W.mg_of X G xTorn.ns
  have g_Wrong := PySem.W.mg_of X G xWrong.ns
  have g_NoHouse := PySem.W.mg_of X G xNoHouse.ns
  have g_NoPath := PySem.W.mg_of X G xNoPath.ns
  have g_Refused := PySem.W.mg_of X G xRefused.ns
  have g_NoIndex := PySem.W.mg_of X G xNoIndex.ns
  have g_NoEdit := PySem.W.mg_of X G xNoEdit.ns
  have g_NoText := PySem.W.mg_of X G xNoText.ns
  have g_NoCommand := PySem.W.mg_of X G xNoCommand.ns
  obtain ⟨fd, F⟩ := d_law.fun_
  refine ⟨fd, ?_, ?_⟩
  · obtain ⟨oc, od, kV, doc, pm, an, cdv, ct, osl, rfl, lk, hcd⟩ := F.ex
    intro s v
    exact .of_eq rfl
  · intro base Xb Gb
    have c0 : CalT l.prog w K mg base 0 "copied" (fun _ _ _ _ => False) := cal_mk Xb Gb d_copied (ps := ["thing"]) (fun _ _ _ _ _ _ us hl => match us, hl with | [_], _ => rfl) fun fd F => false_ok F
    have c1 : CalT l.prog w K mg base 1 "copied" (spCop0 K) := cal_mk Xb Gb d_copied (ps := ["thing"]) (fun _ _ _ _ _ _ us hl => match us, hl with | [_], _ => rfl) fun fd F => ok_cop0 F b_isinstance b_list b_tuple b_dict c0
    have c2 : CalT l.prog w K mg base 2 "copied" (spCop1 K) := cal_mk Xb Gb d_copied (ps := ["thing"]) (fun _ _ _ _ _ _ us hl => match us, hl with | [_], _ => rfl) fun fd F => ok_cop1 F b_isinstance b_list b_tuple b_dict c1
    have e_NoBlob : ME1 l.prog w K mg base 3 "NoBlob" aNoBlob "numbers" := me1 xNoBlob (fun fd F => ok_iNoBlob F xNoBlob.g (xNoBlob.na _ List.mem_cons_self) c2) g_NoBlob (fun _ _ _ _ _ _ us hl => match us, hl with | [_, _], _ => rfl) (fun _ _ _ _ _ _ _ _ => rfl)
    have e_NoData : ME1 l.prog w K mg base 3 "NoData" aNoData "thing" := me1 xNoData (fun fd F => ok_iNoData F xNoData.g (xNoData.na _ List.mem_cons_self) c2) g_NoData (fun _ _ _ _ _ _ us hl => match us, hl with | [_, _], _ => rfl) (fun _ _ _ _ _ _ _ _ => rfl)
    have e_NoName : ME1 l.prog w K mg base 3 "NoName" aNoName "name" := me1 xNoName (fun fd F => ok_iNoName F xNoName.g (xNoName.na _ List.mem_cons_self) c2) g_NoName (fun _ _ _ _ _ _ us hl => match us, hl with | [_, _], _ => rfl) (fun _ _ _ _ _ _ _ _ => rfl)
    have e_NoMode : ME1 l.prog w K mg base 3 "NoMode" aNoMode "mode" := me1 xNoMode (fun fd F => ok_iNoMode F xNoMode.g (xNoMode.na _ List.mem_cons_self) c2) g_NoMode (fun _ _ _ _ _ _ us hl => match us, hl with | [_, _], _ => rfl) (fun _ _ _ _ _ _ _ _ => rfl)
    have e_NoTime : ME1 l.prog w K mg base 3 "NoTime" aNoTime "time" := me1 xNoTime (fun fd F => ok_iNoTime F xNoTime.g (xNoTime.na _ List.mem_cons_self) c2) g_NoTime (fun _ _ _ _ _ _ us hl => match us, hl with | [_, _], _ => rfl) (fun _ _ _ _ _ _ _ _ => rfl)
    have e_NoSize : ME1 l.prog w K mg base 3 "NoSize" aNoSize "size" := me1 xNoSize (fun fd F => ok_iNoSize F xNoSize.g (xNoSize.na _ List.mem_cons_self) c2) g_NoSize (fun _ _ _ _ _ _ us hl => match us, hl with | [_, _], _ => rfl) (fun _ _ _ _ _ _ _ _ => rfl)
    have e_NoPieces : ME1 l.prog w K mg base 3 "NoPieces" aNoPieces "pieces" := me1 xNoPieces (fun fd F => ok_iNoPieces F xNoPieces.g (xNoPieces.na _ List.mem_cons_self) c2) g_NoPieces (fun _ _ _ _ _ _ us hl => match us, hl with | [_, _], _ => rfl) (fun _ _ _ _ _ _ _ _ => rfl)
    have e_NoBlock : ME1 l.prog w K mg base 3 "NoBlock" aNoBlock "thing" := me1 xNoBlock (fun fd F => ok_iNoBlock F xNoBlock.g (xNoBlock.na _ List.mem_cons_self) c2) g_NoBlock (fun _ _ _ _ _ _ us hl => match us, hl with | [_, _], _ => rfl) (fun _ _ _ _ _ _ _ _ => rfl)
    have e_NoMember : ME1 l.prog w K mg base 3 "NoMember" aNoMember "thing" := me1 xNoMember (fun fd F => ok_iNoMember F xNoMember.g (xNoMember.na _ List.mem_cons_self) c2) g_NoMember (fun _ _ _ _ _ _ us hl => match us, hl with | [_, _], _ => rfl) (fun _ _ _ _ _ _ _ _ => rfl)
    have e_TooMany : ME1 l.prog w K mg base 3 "TooMany" aTooMany "limit" := me1 xTooMany (fun fd F => ok_iTooMany F xTooMany.g (xTooMany.na _ List.mem_cons_self) c2) g_TooMany (fun _ _ _ _ _ _ us hl => match us, hl with | [_, _], _ => rfl) (fun _ _ _ _ _ _ _ _ => rfl)
    have e_Closed : ME0 l.prog w K mg base 3 "Closed" aClosed := me0 xClosed (fun fd F => ok_iClosed F) g_Closed (fun _ _ _ _ _ _ us hl => match us, hl with | [_], _ => rfl)
    have e_NoOffset : ME1 l.prog w K mg base 3 "NoOffset" aNoOffset "offset" := me1 xNoOffset (fun fd F => ok_iNoOffset F xNoOffset.g (xNoOffset.na _ List.mem_cons_self) c2) g_NoOffset (fun _ _ _ _ _ _ us hl => match us, hl with | [_, _], _ => rfl) (fun _ _ _ _ _ _ _ _ => rfl)
    have e_Torn : ME1 l.prog w K mg base 3 "Torn" aTorn "offset" := me1 xTorn (fun fd F => ok_iTorn F xTorn.g (xTorn.na _ List.mem_cons_self) c2) g_Torn (fun _ _ _ _ _ _ us hl => match us, hl with | [_, _], _ => rfl) (fun _ _ _ _ _ _ _ _ => rfl)
    have e_Wrong : ME2 l.prog w K mg base 3 "Wrong" aWrong "offset" "field" := me2 (by decide +kernel) xWrong (fun fd F => ok_iWrong F xWrong.g (xWrong.na _ List.mem_cons_self) (xWrong.na _ (List.mem_cons_of_mem _ List.mem_cons_self)) c2) g_Wrong (fun _ _ _ _ _ _ us hl => match us, hl with | [_, _, _], _ => rfl) (fun _ _ _ _ _ _ _ _ _ => rfl)
    have e_NoHouse : ME1 l.prog w K mg base 3 "NoHouse" aNoHouse "given" := me1 xNoHouse (fun fd F => ok_iNoHouse F xNoHouse.g (xNoHouse.na _ List.mem_cons_self) c2) g_NoHouse (fun _ _ _ _ _ _ us hl => match us, hl with | [_, _], _ => rfl) (fun _ _ _ _ _ _ _ _ => rfl)
    have e_NoPath : ME1 l.prog w K mg base 3 "NoPath" aNoPath "path" := me1 xNoPath (fun fd F => ok_iNoPath F xNoPath.g (xNoPath.na _ List.mem_cons_self) c2) g_NoPath (fun _ _ _ _ _ _ us hl => match us, hl with | [_, _], _ => rfl) (fun _ _ _ _ _ _ _ _ => rfl)
    have e_Refused : ME2 l.prog w K mg base 3 "Refused" aRefused "index" "word" := me2 (by decide +kernel) xRefused (fun fd F => ok_iRefused F xRefused.g (xRefused.na _ List.mem_cons_self) (xRefused.na _ (List.mem_cons_of_mem _ List.mem_cons_self)) c2) g_Refused (fun _ _ _ _ _ _ us hl => match us, hl with | [_, _, _], _ => rfl) (fun _ _ _ _ _ _ _ _ _ => rfl)
    have e_NoIndex : ME1 l.prog w K mg base 3 "NoIndex" aNoIndex "index" := me1 xNoIndex (fun fd F => ok_iNoIndex F xNoIndex.g (xNoIndex.na _ List.mem_cons_self) c2) g_NoIndex (fun _ _ _ _ _ _ us hl => match us, hl with | [_, _], _ => rfl) (fun _ _ _ _ _ _ _ _ => rfl)
    have e_NoEdit : ME0 l.prog w K mg base 3 "NoEdit" aNoEdit := me0 xNoEdit (fun fd F => ok_iNoEdit F) g_NoEdit (fun _ _ _ _ _ _ us hl => match us, hl with | [_], _ => rfl)
    have e_NoText : ME1 l.prog w K mg base 3 "NoText" aNoText "text" := me1 xNoText (fun fd F => ok_iNoText F xNoText.g (xNoText.na _ List.mem_cons_self) c2) g_NoText (fun _ _ _ _ _ _ us hl => match us, hl with | [_, _], _ => rfl) (fun _ _ _ _ _ _ _ _ => rfl)
    have e_NoCommand : ME1 l.prog w K mg base 3 "NoCommand" aNoCommand "command" := me1 xNoCommand (fun fd F => ok_iNoCommand F xNoCommand.g (xNoCommand.na _ List.mem_cons_self) c2) g_NoCommand (fun _ _ _ _ _ _ us hl => match us, hl with | [_, _], _ => rfl) (fun _ _ _ _ _ _ _ _ => rfl)
    have E0 : EsOk K ⟨aNoBlob, aNoData, aNoName, aNoMode, aNoTime, aNoSize, aNoPieces, aNoBlock, aNoMember, aTooMany, aClosed, aNoOffset, aTorn, aWrong, aNoHouse, aNoPath, aRefused, aNoIndex, aNoEdit, aNoText, aNoCommand⟩ := ⟨.cons xNoBlob.m (.cons xNoData.m (.cons xNoName.m (.cons xNoMode.m (.cons xNoTime.m (.cons xNoSize.m (.cons xNoPieces.m (.cons xNoBlock.m (.cons xNoMember.m (.cons xTooMany.m (.cons xClosed.m (.cons xNoOffset.m (.cons xTorn.m (.cons xWrong.m (.cons xNoHouse.m (.cons xNoPath.m (.cons xRefused.m (.cons xNoIndex.m (.cons xNoEdit.m (.cons xNoText.m (.cons xNoCommand.m (.nil))))))))))))))))))))), nd⟩
    have c_catch : CalT l.prog w K mg base 1 "_law_catch" (spCatch K) := cal_mk Xb Gb d__law_catch (ps := ["_law_error"]) (fun _ _ _ _ _ _ us hl => match us, hl with | [_], _ => rfl) fun fd F => ok_catch F b_isinstance b_LookupError b_KeyError b_IndexError b_ArithmeticError b_OverflowError b_ValueError b_TypeError b_RuntimeError
    have c_kinds : CalT l.prog w K mg base 1 "_law_kinds" (spKinds K ⟨aNoBlob, aNoData, aNoName, aNoMode, aNoTime, aNoSize, aNoPieces, aNoBlock, aNoMember, aTooMany, aClosed, aNoOffset, aTorn, aWrong, aNoHouse, aNoPath, aRefused, aNoIndex, aNoEdit, aNoText, aNoCommand⟩) := cal_mk Xb Gb d__law_kinds (ps := ["_law_error"]) (fun _ _ _ _ _ _ us hl => match us, hl with | [_], _ => rfl) fun fd F => ok_kinds (c := ⟨aNoBlob, aNoData, aNoName, aNoMode, aNoTime, aNoSize, aNoPieces, aNoBlock, aNoMember, aTooMany, aClosed, aNoOffset, aTorn, aWrong, aNoHouse, aNoPath, aRefused, aNoIndex, aNoEdit, aNoText, aNoCommand⟩) F b_isinstance E0 g_NoBlob g_NoData g_NoName g_NoMode g_NoTime g_NoSize g_NoPieces g_NoBlock g_NoMember g_TooMany g_Closed g_NoOffset g_Torn g_Wrong g_NoHouse g_NoPath g_Refused g_NoIndex g_NoEdit g_NoText g_NoCommand
    have c_fields : CalT l.prog w K mg base 5 "_law_fields_right" (spFields K) := cal_mk Xb Gb d__law_fields_right (ps := ["_law_value", "_law_other"]) (fun _ _ _ _ _ _ us hl => match us, hl with | [_, _], _ => rfl) fun fd F => ok_fields (c := ⟨aNoBlob, aNoData, aNoName, aNoMode, aNoTime, aNoSize, aNoPieces, aNoBlock, aNoMember, aTooMany, aClosed, aNoOffset, aTorn, aWrong, aNoHouse, aNoPath, aRefused, aNoIndex, aNoEdit, aNoText, aNoCommand⟩) F b_all g_NoBlob g_NoData g_NoName g_NoMode g_NoTime g_NoSize g_NoPieces g_NoBlock g_NoMember g_TooMany g_NoOffset g_Torn g_Wrong g_NoHouse g_NoPath g_Refused g_NoIndex g_NoText g_NoCommand e_NoBlob e_NoData e_NoName e_NoMode e_NoTime e_NoSize e_NoPieces e_NoBlock e_NoMember e_TooMany e_NoOffset e_Torn e_NoHouse e_NoPath e_NoIndex e_NoText e_NoCommand e_Wrong e_Refused
    exact ok_law (c := ⟨aNoBlob, aNoData, aNoName, aNoMode, aNoTime, aNoSize, aNoPieces, aNoBlock, aNoMember, aTooMany, aClosed, aNoOffset, aTorn, aWrong, aNoHouse, aNoPath, aRefused, aNoIndex, aNoEdit, aNoText, aNoCommand⟩) F b_range b_max b_min b_len b_int b_enumerate E0 g_NoBlob g_NoData g_NoName g_NoMode g_NoTime g_NoSize g_NoPieces g_NoBlock g_NoMember g_TooMany g_Closed g_NoOffset g_Torn g_Wrong g_NoHouse g_NoPath g_Refused g_NoIndex g_NoEdit g_NoText g_NoCommand e_NoBlob e_NoData e_NoName e_NoMode e_NoTime e_NoSize e_NoPieces e_NoBlock e_NoMember e_TooMany e_NoOffset e_Torn e_NoHouse e_NoPath e_NoIndex e_NoText e_NoCommand e_Wrong e_Refused e_Closed e_NoEdit c_catch c_kinds c_fields
theorem walk {l : PySem.W.OpenLaw} {q : Program} {loose : List Str} {XP : (Str → Option Value) → Heap → Prop} {YP : World → Heap → Prop} {d : DefRec} {K : Params → PySem.W.Frag} (hn : l.most = some 63) (hdf : d.params.defaults = [])
    (hY : ∀ (w : World) (h : Heap), YP w h → (K w.params).In h)
    (F : ∀ (w : World) (mg : Str → Option Value) (fa : Addr) (h : Heap), (K w.params).In h → h.Ns mainGlobals mg → mg d.name = some (.ref fa) →
      ∃ fd : FuncData, (∀ (s : Shared) (u : Value), BindsTo s fd ⟨[u], []⟩ [("_law_script", u)]) ∧ ∀ base : Heap, (K w.params).In base → base.Ns mainGlobals mg → FnG l.prog w (K w.params) mg base 6 fa fd ["_law_script"] (spLaw (K w.params))) :
    PySem.W.WalkO q loose XP YP l.row.toRowW d [] (fun f vs => PySem.call f vs) :=
  walkG (n := 63) (k := 6) (sp := fun w => spLaw (K w.params)) hn (by decide) hdf ⟨rfl, by decide, by decide⟩ hY F (fun _ _ a ns hl _ hS => ⟨a, ns, rfl, hS, hl, fun _ => rfl⟩)
end
end Th
open PySem PySem.W PyProof.Rows
set_option maxRecDepth 100000 in
set_option maxHeartbeats 0 in
theorem PySem.Challenge.cw_tarhouse_k28_errors_made_holds : PySem.Challenge.rw_tarhouse_k28_errors_made.Holds := by
  w_on; o_law; k_head; (case hw => w_witness2)
  k_fill
  refine Th.walk (l := PySem.Challenge.rw_tarhouse_k28_errors_made) rfl rfl (fun w h Y => PySem.W.kIn_of Y) ?F
  case F =>
    intro w mg fa h KX G hmg
    refine' Th.all_mk KX G hmg (Th.defF_mk ?a_law ?l_law ?c_law ?k_law) (Th.defF_mk ?a_copied ?l_copied ?c_copied ?k_copied) (Th.defF_mk ?a__law_catch ?l__law_catch ?c__law_catch ?k__law_catch) (Th.defF_mk ?a__law_kinds ?l__law_kinds ?c__law_kinds ?k__law_kinds) (Th.defF_mk ?a__law_fields_right ?l__law_fields_right ?c__law_fields_right ?k__law_fields_right) (Th.exF_mk PySem.F.excBase_TypeError PySem.F.store_TypeError (by decide +kernel) ?NoBlob_ns ?NoBlob_hin ?NoBlob_hov ?NoBlob_sa ?NoBlob_iC ?NoBlob_tI ?NoBlob_kC ?NoBlob_ga ?NoBlob_gg ?NoBlob_exC ?NoBlob_hd ?NoBlob_ha ?NoBlob_hn ?NoBlob_ht ?NoBlob_hm ?NoBlob_hcd ?NoBlob_hmro ?NoBlob_ty ?NoBlob_l ?NoBlob_c ?NoBlob_k ?NoBlob_na) (Th.exF_mk PySem.F.excBase_TypeError PySem.F.store_TypeError (by decide +kernel) ?NoData_ns ?NoData_hin ?NoData_hov ?NoData_sa ?NoData_iC ?NoData_tI ?NoData_kC ?NoData_ga ?NoData_gg ?NoData_exC ?NoData_hd ?NoData_ha ?NoData_hn ?NoData_ht ?NoData_hm ?NoData_hcd ?NoData_hmro ?NoData_ty ?NoData_l ?NoData_c ?NoData_k ?NoData_na) (Th.exF_mk PySem.F.excBase_ValueError PySem.F.store_ValueError (by decide +kernel) ?NoName_ns ?NoName_hin ?NoName_hov ?NoName_sa ?NoName_iC ?NoName_tI ?NoName_kC ?NoName_ga ?NoName_gg ?NoName_exC ?NoName_hd ?NoName_ha ?NoName_hn ?NoName_ht ?NoName_hm ?NoName_hcd ?NoName_hmro ?NoName_ty ?NoName_l ?NoName_c ?NoName_k ?NoName_na) (Th.exF_mk PySem.F.excBase_ValueError PySem.F.store_ValueError (by decide +kernel) ?NoMode_ns ?NoMode_hin ?NoMode_hov ?NoMode_sa ?NoMode_iC ?NoMode_tI ?NoMode_kC ?NoMode_ga ?NoMode_gg ?NoMode_exC ?NoMode_hd ?NoMode_ha ?NoMode_hn ?NoMode_ht ?NoMode_hm ?NoMode_hcd ?NoMode_hmro ?NoMode_ty ?NoMode_l ?NoMode_c ?NoMode_k ?NoMode_na) (Th.exF_mk PySem.F.excBase_OverflowError PySem.F.store_OverflowError (by decide +kernel) ?NoTime_ns ?NoTime_hin ?NoTime_hov ?NoTime_sa ?NoTime_iC ?NoTime_tI ?NoTime_kC ?NoTime_ga ?NoTime_gg ?NoTime_exC ?NoTime_hd ?NoTime_ha ?NoTime_hn ?NoTime_ht ?NoTime_hm ?NoTime_hcd ?NoTime_hmro ?NoTime_ty ?NoTime_l ?NoTime_c ?NoTime_k ?NoTime_na) (Th.exF_mk PySem.F.excBase_ValueError PySem.F.store_ValueError (by decide +kernel) ?NoSize_ns ?NoSize_hin ?NoSize_hov ?NoSize_sa ?NoSize_iC ?NoSize_tI ?NoSize_kC ?NoSize_ga ?NoSize_gg ?NoSize_exC ?NoSize_hd ?NoSize_ha ?NoSize_hn ?NoSize_ht ?NoSize_hm ?NoSize_hcd ?NoSize_hmro ?NoSize_ty ?NoSize_l ?NoSize_c ?NoSize_k ?NoSize_na) (Th.exF_mk PySem.F.excBase_ValueError PySem.F.store_ValueError (by decide +kernel) ?NoPieces_ns ?NoPieces_hin ?NoPieces_hov ?NoPieces_sa ?NoPieces_iC ?NoPieces_tI ?NoPieces_kC ?NoPieces_ga ?NoPieces_gg ?NoPieces_exC ?NoPieces_hd ?NoPieces_ha ?NoPieces_hn ?NoPieces_ht ?NoPieces_hm ?NoPieces_hcd ?NoPieces_hmro ?NoPieces_ty ?NoPieces_l ?NoPieces_c ?NoPieces_k ?NoPieces_na) (Th.exF_mk PySem.F.excBase_TypeError PySem.F.store_TypeError (by decide +kernel) ?NoBlock_ns ?NoBlock_hin ?NoBlock_hov ?NoBlock_sa ?NoBlock_iC ?NoBlock_tI ?NoBlock_kC ?NoBlock_ga ?NoBlock_gg ?NoBlock_exC ?NoBlock_hd ?NoBlock_ha ?NoBlock_hn ?NoBlock_ht ?NoBlock_hm ?NoBlock_hcd ?NoBlock_hmro ?NoBlock_ty ?NoBlock_l ?NoBlock_c ?NoBlock_k ?NoBlock_na) (Th.exF_mk PySem.F.excBase_TypeError PySem.F.store_TypeError (by decide +kernel) ?NoMember_ns ?NoMember_hin ?NoMember_hov ?NoMember_sa ?NoMember_iC ?NoMember_tI ?NoMember_kC ?NoMember_ga ?NoMember_gg ?NoMember_exC ?NoMember_hd ?NoMember_ha ?NoMember_hn ?NoMember_ht ?NoMember_hm ?NoMember_hcd ?NoMember_hmro ?NoMember_ty ?NoMember_l ?NoMember_c ?NoMember_k ?NoMember_na) (Th.exF_mk PySem.F.excBase_OverflowError PySem.F.store_OverflowError (by decide +kernel) ?TooMany_ns ?TooMany_hin ?TooMany_hov ?TooMany_sa ?TooMany_iC ?TooMany_tI ?TooMany_kC ?TooMany_ga ?TooMany_gg ?TooMany_exC ?TooMany_hd ?TooMany_ha ?TooMany_hn ?TooMany_ht ?TooMany_hm ?TooMany_hcd ?TooMany_hmro ?TooMany_ty ?TooMany_l ?TooMany_c ?TooMany_k ?TooMany_na) (Th.exF_mk PySem.F.excBase_RuntimeError PySem.F.store_RuntimeError (by decide +kernel) ?Closed_ns ?Closed_hin ?Closed_hov ?Closed_sa ?Closed_iC ?Closed_tI ?Closed_kC ?Closed_ga ?Closed_gg ?Closed_exC ?Closed_hd ?Closed_ha ?Closed_hn ?Closed_ht ?Closed_hm ?Closed_hcd ?Closed_hmro ?Closed_ty ?Closed_l ?Closed_c ?Closed_k ?Closed_na) (Th.exF_mk PySem.F.excBase_IndexError PySem.F.store_IndexError (by decide +kernel) ?NoOffset_ns ?NoOffset_hin ?NoOffset_hov ?NoOffset_sa ?NoOffset_iC ?NoOffset_tI ?NoOffset_kC ?NoOffset_ga ?NoOffset_gg ?NoOffset_exC ?NoOffset_hd ?NoOffset_ha ?NoOffset_hn ?NoOffset_ht ?NoOffset_hm ?NoOffset_hcd ?NoOffset_hmro ?NoOffset_ty ?NoOffset_l ?NoOffset_c ?NoOffset_k ?NoOffset_na) (Th.exF_mk PySem.F.excBase_ValueError PySem.F.store_ValueError (by decide +kernel) ?Torn_ns ?Torn_hin ?Torn_hov ?Torn_sa ?Torn_iC ?Torn_tI ?Torn_kC ?Torn_ga ?Torn_gg ?Torn_exC ?Torn_hd ?Torn_ha ?Torn_hn ?Torn_ht ?Torn_hm ?Torn_hcd ?Torn_hmro ?Torn_ty ?Torn_l ?Torn_c ?Torn_k ?Torn_na) (Th.exF_mk PySem.F.excBase_ValueError PySem.F.store_ValueError (by decide +kernel) ?Wrong_ns ?Wrong_hin ?Wrong_hov ?Wrong_sa ?Wrong_iC ?Wrong_tI ?Wrong_kC ?Wrong_ga ?Wrong_gg ?Wrong_exC ?Wrong_hd ?Wrong_ha ?Wrong_hn ?Wrong_ht ?Wrong_hm ?Wrong_hcd ?Wrong_hmro ?Wrong_ty ?Wrong_l ?Wrong_c ?Wrong_k ?Wrong_na) (Th.exF_mk PySem.F.excBase_TypeError PySem.F.store_TypeError (by decide +kernel) ?NoHouse_ns ?NoHouse_hin ?NoHouse_hov ?NoHouse_sa ?NoHouse_iC ?NoHouse_tI ?NoHouse_kC ?NoHouse_ga ?NoHouse_gg ?NoHouse_exC ?NoHouse_hd ?NoHouse_ha ?NoHouse_hn ?NoHouse_ht ?NoHouse_hm ?NoHouse_hcd ?NoHouse_hmro ?NoHouse_ty ?NoHouse_l ?NoHouse_c ?NoHouse_k ?NoHouse_na) (Th.exF_mk PySem.F.excBase_LookupError Th.store_KeyErrorT (by decide +kernel) ?NoPath_ns ?NoPath_hin ?NoPath_hov ?NoPath_sa ?NoPath_iC ?NoPath_tI ?NoPath_kC ?NoPath_ga ?NoPath_gg ?NoPath_exC ?NoPath_hd ?NoPath_ha ?NoPath_hn ?NoPath_ht ?NoPath_hm ?NoPath_hcd ?NoPath_hmro ?NoPath_ty ?NoPath_l ?NoPath_c ?NoPath_k ?NoPath_na) (Th.exF_mk PySem.F.excBase_RuntimeError PySem.F.store_RuntimeError (by decide +kernel) ?Refused_ns ?Refused_hin ?Refused_hov ?Refused_sa ?Refused_iC ?Refused_tI ?Refused_kC ?Refused_ga ?Refused_gg ?Refused_exC ?Refused_hd ?Refused_ha ?Refused_hn ?Refused_ht ?Refused_hm ?Refused_hcd ?Refused_hmro ?Refused_ty ?Refused_l ?Refused_c ?Refused_k ?Refused_na) (Th.exF_mk PySem.F.excBase_IndexError PySem.F.store_IndexError (by decide +kernel) ?NoIndex_ns ?NoIndex_hin ?NoIndex_hov ?NoIndex_sa ?NoIndex_iC ?NoIndex_tI ?NoIndex_kC ?NoIndex_ga ?NoIndex_gg ?NoIndex_exC ?NoIndex_hd ?NoIndex_ha ?NoIndex_hn ?NoIndex_ht ?NoIndex_hm ?NoIndex_hcd ?NoIndex_hmro ?NoIndex_ty ?NoIndex_l ?NoIndex_c ?NoIndex_k ?NoIndex_na) (Th.exF_mk PySem.F.excBase_LookupError PySem.F.store_LookupError (by decide +kernel) ?NoEdit_ns ?NoEdit_hin ?NoEdit_hov ?NoEdit_sa ?NoEdit_iC ?NoEdit_tI ?NoEdit_kC ?NoEdit_ga ?NoEdit_gg ?NoEdit_exC ?NoEdit_hd ?NoEdit_ha ?NoEdit_hn ?NoEdit_ht ?NoEdit_hm ?NoEdit_hcd ?NoEdit_hmro ?NoEdit_ty ?NoEdit_l ?NoEdit_c ?NoEdit_k ?NoEdit_na) (Th.exF_mk PySem.F.excBase_ValueError PySem.F.store_ValueError (by decide +kernel) ?NoText_ns ?NoText_hin ?NoText_hov ?NoText_sa ?NoText_iC ?NoText_tI ?NoText_kC ?NoText_ga ?NoText_gg ?NoText_exC ?NoText_hd ?NoText_ha ?NoText_hn ?NoText_ht ?NoText_hm ?NoText_hcd ?NoText_hmro ?NoText_ty ?NoText_l ?NoText_c ?NoText_k ?NoText_na) (Th.exF_mk PySem.F.excBase_ValueError PySem.F.store_ValueError (by decide +kernel) ?NoCommand_ns ?NoCommand_hin ?NoCommand_hov ?NoCommand_sa ?NoCommand_iC ?NoCommand_tI ?NoCommand_kC ?NoCommand_ga ?NoCommand_gg ?NoCommand_exC ?NoCommand_hd ?NoCommand_ha ?NoCommand_hn ?NoCommand_ht ?NoCommand_hm ?NoCommand_hcd ?NoCommand_hmro ?NoCommand_ty ?NoCommand_l ?NoCommand_c ?NoCommand_k ?NoCommand_na) ?nd ?z
    (case a_law => k_is); (case l_law => k_is); (case c_law => k_is); (case k_law => k_is)
    (case a_copied => k_is); (case l_copied => k_is); (case c_copied => k_is); (case k_copied => k_is)
    (case a__law_catch => k_is); (case l__law_catch => k_is); (case c__law_catch => k_is); (case k__law_catch => k_is)
    (case a__law_kinds => k_is); (case l__law_kinds => k_is); (case c__law_kinds => k_is); (case k__law_kinds => k_is)
    (case a__law_fields_right => k_is); (case l__law_fields_right => k_is); (case c__law_fields_right => k_is); (case k__law_fields_right => k_is)
    (case NoBlob_ns => k_is); (case NoBlob_hin => kx_is); (case NoBlob_hov => kx_is); (case NoBlob_sa => k_is); (case NoBlob_iC => k_is); (case NoBlob_tI => k_is); (case NoBlob_kC => k_is); (case NoBlob_ga => k_is); (case NoBlob_gg => k_is); (case NoBlob_exC => k_is); (case NoBlob_hd => k_is); (case NoBlob_ha => k_is); (case NoBlob_hn => k_is); (case NoBlob_ht => k_is); (case NoBlob_hm => k_is); (case NoBlob_hcd => k_is); (case NoBlob_hmro => exact rfl); (case NoBlob_ty => k_is); (case NoBlob_l => k_is); (case NoBlob_c => k_is); (case NoBlob_k => k_is)
    case NoBlob_na =>
      refine List.forall_mem_cons.mpr ⟨?_, ?_⟩; (k_is)
      exact fun _ h => nomatch h
    (case NoData_ns => k_is); (case NoData_hin => kx_is); (case NoData_hov => kx_is); (case NoData_sa => k_is); (case NoData_iC => k_is); (case NoData_tI => k_is); (case NoData_kC => k_is); (case NoData_ga => k_is); (case NoData_gg => k_is); (case NoData_exC => k_is); (case NoData_hd => k_is); (case NoData_ha => k_is); (case NoData_hn => k_is); (case NoData_ht => k_is); (case NoData_hm => k_is); (case NoData_hcd => k_is); (case NoData_hmro => exact rfl); (case NoData_ty => k_is); (case NoData_l => k_is); (case NoData_c => k_is); (case NoData_k => k_is)
    case NoData_na =>
      refine List.forall_mem_cons.mpr ⟨?_, ?_⟩; (k_is)
      exact fun _ h => nomatch h
    (case NoName_ns => k_is); (case NoName_hin => kx_is); (case NoName_hov => kx_is); (case NoName_sa => k_is); (case NoName_iC => k_is); (case NoName_tI => k_is); (case NoName_kC => k_is); (case NoName_ga => k_is); (case NoName_gg => k_is); (case NoName_exC => k_is); (case NoName_hd => k_is); (case NoName_ha => k_is); (case NoName_hn => k_is); (case NoName_ht => k_is); (case NoName_hm => k_is); (case NoName_hcd => k_is); (case NoName_hmro => exact rfl); (case NoName_ty => k_is); (case NoName_l => k_is); (case NoName_c => k_is); (case NoName_k => k_is)
    case NoName_na =>
      refine List.forall_mem_cons.mpr ⟨?_, ?_⟩; (k_is)
      exact fun _ h => nomatch h
    (case NoMode_ns => k_is); (case NoMode_hin => kx_is); (case NoMode_hov => kx_is); (case NoMode_sa => k_is); (case NoMode_iC => k_is); (case NoMode_tI => k_is); (case NoMode_kC => k_is); (case NoMode_ga => k_is); (case NoMode_gg => k_is); (case NoMode_exC => k_is); (case NoMode_hd => k_is); (case NoMode_ha => k_is); (case NoMode_hn => k_is); (case NoMode_ht => k_is); (case NoMode_hm => k_is); (case NoMode_hcd => k_is); (case NoMode_hmro => exact rfl); (case NoMode_ty => k_is); (case NoMode_l => k_is); (case NoMode_c => k_is); (case NoMode_k => k_is)
    case NoMode_na =>
      refine List.forall_mem_cons.mpr ⟨?_, ?_⟩; (k_is)
      exact fun _ h => nomatch h
    (case NoTime_ns => k_is); (case NoTime_hin => kx_is); (case NoTime_hov => kx_is); (case NoTime_sa => k_is); (case NoTime_iC => k_is); (case NoTime_tI => k_is); (case NoTime_kC => k_is); (case NoTime_ga => k_is); (case NoTime_gg => k_is); (case NoTime_exC => k_is); (case NoTime_hd => k_is); (case NoTime_ha => k_is); (case NoTime_hn => k_is); (case NoTime_ht => k_is); (case NoTime_hm => k_is); (case NoTime_hcd => k_is); (case NoTime_hmro => exact rfl); (case NoTime_ty => k_is); (case NoTime_l => k_is); (case NoTime_c => k_is); (case NoTime_k => k_is)
    case NoTime_na =>
      refine List.forall_mem_cons.mpr ⟨?_, ?_⟩; (k_is)
      exact fun _ h => nomatch h
    (case NoSize_ns => k_is); (case NoSize_hin => kx_is); (case NoSize_hov => kx_is); (case NoSize_sa => k_is); (case NoSize_iC => k_is); (case NoSize_tI => k_is); (case NoSize_kC => k_is); (case NoSize_ga => k_is); (case NoSize_gg => k_is); (case NoSize_exC => k_is); (case NoSize_hd => k_is); (case NoSize_ha => k_is); (case NoSize_hn => k_is); (case NoSize_ht => k_is); (case NoSize_hm => k_is); (case NoSize_hcd => k_is); (case NoSize_hmro => exact rfl); (case NoSize_ty => k_is); (case NoSize_l => k_is); (case NoSize_c => k_is); (case NoSize_k => k_is)
    case NoSize_na =>
      refine List.forall_mem_cons.mpr ⟨?_, ?_⟩; (k_is)
      exact fun _ h => nomatch h
    (case NoPieces_ns => k_is); (case NoPieces_hin => kx_is); (case NoPieces_hov => kx_is); (case NoPieces_sa => k_is); (case NoPieces_iC => k_is); (case NoPieces_tI => k_is); (case NoPieces_kC => k_is); (case NoPieces_ga => k_is); (case NoPieces_gg => k_is); (case NoPieces_exC => k_is); (case NoPieces_hd => k_is); (case NoPieces_ha => k_is); (case NoPieces_hn => k_is); (case NoPieces_ht => k_is); (case NoPieces_hm => k_is); (case NoPieces_hcd => k_is); (case NoPieces_hmro => exact rfl); (case NoPieces_ty => k_is); (case NoPieces_l => k_is); (case NoPieces_c => k_is); (case NoPieces_k => k_is)
    case NoPieces_na =>
      refine List.forall_mem_cons.mpr ⟨?_, ?_⟩; (k_is)
      exact fun _ h => nomatch h
    (case NoBlock_ns => k_is); (case NoBlock_hin => kx_is); (case NoBlock_hov => kx_is); (case NoBlock_sa => k_is); (case NoBlock_iC => k_is); (case NoBlock_tI => k_is); (case NoBlock_kC => k_is); (case NoBlock_ga => k_is); (case NoBlock_gg => k_is); (case NoBlock_exC => k_is); (case NoBlock_hd => k_is); (case NoBlock_ha => k_is); (case NoBlock_hn => k_is); (case NoBlock_ht => k_is); (case NoBlock_hm => k_is); (case NoBlock_hcd => k_is); (case NoBlock_hmro => exact rfl); (case NoBlock_ty => k_is); (case NoBlock_l => k_is); (case NoBlock_c => k_is); (case NoBlock_k => k_is)
    case NoBlock_na =>
      refine List.forall_mem_cons.mpr ⟨?_, ?_⟩; (k_is)
      exact fun _ h => nomatch h
    (case NoMember_ns => k_is); (case NoMember_hin => kx_is); (case NoMember_hov => kx_is); (case NoMember_sa => k_is); (case NoMember_iC => k_is); (case NoMember_tI => k_is); (case NoMember_kC => k_is); (case NoMember_ga => k_is); (case NoMember_gg => k_is); (case NoMember_exC => k_is); (case NoMember_hd => k_is); (case NoMember_ha => k_is); (case NoMember_hn => k_is); (case NoMember_ht => k_is); (case NoMember_hm => k_is); (case NoMember_hcd => k_is); (case NoMember_hmro => exact rfl); (case NoMember_ty => k_is); (case NoMember_l => k_is); (case NoMember_c => k_is); (case NoMember_k => k_is)
    case NoMember_na =>
      refine List.forall_mem_cons.mpr ⟨?_, ?_⟩; (k_is)
      exact fun _ h => nomatch h
    (case TooMany_ns => k_is); (case TooMany_hin => kx_is); (case TooMany_hov => kx_is); (case TooMany_sa => k_is); (case TooMany_iC => k_is); (case TooMany_tI => k_is); (case TooMany_kC => k_is); (case TooMany_ga => k_is); (case TooMany_gg => k_is); (case TooMany_exC => k_is); (case TooMany_hd => k_is); (case TooMany_ha => k_is); (case TooMany_hn => k_is); (case TooMany_ht => k_is); (case TooMany_hm => k_is); (case TooMany_hcd => k_is); (case TooMany_hmro => exact rfl); (case TooMany_ty => k_is); (case TooMany_l => k_is); (case TooMany_c => k_is); (case TooMany_k => k_is)
    case TooMany_na =>
      refine List.forall_mem_cons.mpr ⟨?_, ?_⟩; (k_is)
      exact fun _ h => nomatch h
    (case Closed_ns => k_is); (case Closed_hin => kx_is); (case Closed_hov => kx_is); (case Closed_sa => k_is); (case Closed_iC => k_is); (case Closed_tI => k_is); (case Closed_kC => k_is); (case Closed_ga => k_is); (case Closed_gg => k_is); (case Closed_exC => k_is); (case Closed_hd => k_is); (case Closed_ha => k_is); (case Closed_hn => k_is); (case Closed_ht => k_is); (case Closed_hm => k_is); (case Closed_hcd => k_is); (case Closed_hmro => exact rfl); (case Closed_ty => k_is); (case Closed_l => k_is); (case Closed_c => k_is); (case Closed_k => k_is)
    case Closed_na =>
      exact fun _ h => nomatch h
    (case NoOffset_ns => k_is); (case NoOffset_hin => kx_is); (case NoOffset_hov => kx_is); (case NoOffset_sa => k_is); (case NoOffset_iC => k_is); (case NoOffset_tI => k_is); (case NoOffset_kC => k_is); (case NoOffset_ga => k_is); (case NoOffset_gg => k_is); (case NoOffset_exC => k_is); (case NoOffset_hd => k_is); (case NoOffset_ha => k_is); (case NoOffset_hn => k_is); (case NoOffset_ht => k_is); (case NoOffset_hm => k_is); (case NoOffset_hcd => k_is); (case NoOffset_hmro => exact rfl); (case NoOffset_ty => k_is); (case NoOffset_l => k_is); (case NoOffset_c => k_is); (case NoOffset_k => k_is)
    case NoOffset_na =>
      refine List.forall_mem_cons.mpr ⟨?_, ?_⟩; (k_is)
      exact fun _ h => nomatch h
    (case Torn_ns => k_is); (case Torn_hin => kx_is); (case Torn_hov => kx_is); (case Torn_sa => k_is); (case Torn_iC => k_is); (case Torn_tI => k_is); (case Torn_kC => k_is); (case Torn_ga => k_is); (case Torn_gg => k_is); (case Torn_exC => k_is); (case Torn_hd => k_is); (case Torn_ha => k_is); (case Torn_hn => k_is); (case Torn_ht => k_is); (case Torn_hm => k_is); (case Torn_hcd => k_is); (case Torn_hmro => exact rfl); (case Torn_ty => k_is); (case Torn_l => k_is); (case Torn_c => k_is); (case Torn_k => k_is)
    case Torn_na =>
      refine List.forall_mem_cons.mpr ⟨?_, ?_⟩; (k_is)
      exact fun _ h => nomatch h
    (case Wrong_ns => k_is); (case Wrong_hin => kx_is); (case Wrong_hov => kx_is); (case Wrong_sa => k_is); (case Wrong_iC => k_is); (case Wrong_tI => k_is); (case Wrong_kC => k_is); (case Wrong_ga => k_is); (case Wrong_gg => k_is); (case Wrong_exC => k_is); (case Wrong_hd => k_is); (case Wrong_ha => k_is); (case Wrong_hn => k_is); (case Wrong_ht => k_is); (case Wrong_hm => k_is); (case Wrong_hcd => k_is); (case Wrong_hmro => exact rfl); (case Wrong_ty => k_is); (case Wrong_l => k_is); (case Wrong_c => k_is); (case Wrong_k => k_is)
    case Wrong_na =>
      refine List.forall_mem_cons.mpr ⟨?_, ?_⟩; (k_is)
      refine List.forall_mem_cons.mpr ⟨?_, ?_⟩; (k_is)
      exact fun _ h => nomatch h
    (case NoHouse_ns => k_is); (case NoHouse_hin => kx_is); (case NoHouse_hov => kx_is); (case NoHouse_sa => k_is); (case NoHouse_iC => k_is); (case NoHouse_tI => k_is); (case NoHouse_kC => k_is); (case NoHouse_ga => k_is); (case NoHouse_gg => k_is); (case NoHouse_exC => k_is); (case NoHouse_hd => k_is); (case NoHouse_ha => k_is); (case NoHouse_hn => k_is); (case NoHouse_ht => k_is); (case NoHouse_hm => k_is); (case NoHouse_hcd => k_is); (case NoHouse_hmro => exact rfl); (case NoHouse_ty => k_is); (case NoHouse_l => k_is); (case NoHouse_c => k_is); (case NoHouse_k => k_is)
    case NoHouse_na =>
      refine List.forall_mem_cons.mpr ⟨?_, ?_⟩; (k_is)
      exact fun _ h => nomatch h
    (case NoPath_ns => k_is); (case NoPath_hin => kx_is); (case NoPath_hov => kx_is); (case NoPath_sa => k_is); (case NoPath_iC => k_is); (case NoPath_tI => k_is); (case NoPath_kC => k_is); (case NoPath_ga => k_is); (case NoPath_gg => k_is); (case NoPath_exC => k_is); (case NoPath_hd => k_is); (case NoPath_ha => k_is); (case NoPath_hn => k_is); (case NoPath_ht => k_is); (case NoPath_hm => k_is); (case NoPath_hcd => k_is); (case NoPath_hmro => exact rfl); (case NoPath_ty => k_is); (case NoPath_l => k_is); (case NoPath_c => k_is); (case NoPath_k => k_is)
    case NoPath_na =>
      refine List.forall_mem_cons.mpr ⟨?_, ?_⟩; (k_is)
      exact fun _ h => nomatch h
    (case Refused_ns => k_is); (case Refused_hin => kx_is); (case Refused_hov => kx_is); (case Refused_sa => k_is); (case Refused_iC => k_is); (case Refused_tI => k_is); (case Refused_kC => k_is); (case Refused_ga => k_is); (case Refused_gg => k_is); (case Refused_exC => k_is); (case Refused_hd => k_is); (case Refused_ha => k_is); (case Refused_hn => k_is); (case Refused_ht => k_is); (case Refused_hm => k_is); (case Refused_hcd => k_is); (case Refused_hmro => exact rfl); (case Refused_ty => k_is); (case Refused_l => k_is); (case Refused_c => k_is); (case Refused_k => k_is)
    case Refused_na =>
      refine List.forall_mem_cons.mpr ⟨?_, ?_⟩; (k_is)
      refine List.forall_mem_cons.mpr ⟨?_, ?_⟩; (k_is)
      exact fun _ h => nomatch h
    (case NoIndex_ns => k_is); (case NoIndex_hin => kx_is); (case NoIndex_hov => kx_is); (case NoIndex_sa => k_is); (case NoIndex_iC => k_is); (case NoIndex_tI => k_is); (case NoIndex_kC => k_is); (case NoIndex_ga => k_is); (case NoIndex_gg => k_is); (case NoIndex_exC => k_is); (case NoIndex_hd => k_is); (case NoIndex_ha => k_is); (case NoIndex_hn => k_is); (case NoIndex_ht => k_is); (case NoIndex_hm => k_is); (case NoIndex_hcd => k_is); (case NoIndex_hmro => exact rfl); (case NoIndex_ty => k_is); (case NoIndex_l => k_is); (case NoIndex_c => k_is); (case NoIndex_k => k_is)
    case NoIndex_na =>
      refine List.forall_mem_cons.mpr ⟨?_, ?_⟩; (k_is)
      exact fun _ h => nomatch h
    (case NoEdit_ns => k_is); (case NoEdit_hin => kx_is); (case NoEdit_hov => kx_is); (case NoEdit_sa => k_is); (case NoEdit_iC => k_is); (case NoEdit_tI => k_is); (case NoEdit_kC => k_is); (case NoEdit_ga => k_is); (case NoEdit_gg => k_is); (case NoEdit_exC => k_is); (case NoEdit_hd => k_is); (case NoEdit_ha => k_is); (case NoEdit_hn => k_is); (case NoEdit_ht => k_is); (case NoEdit_hm => k_is); (case NoEdit_hcd => k_is); (case NoEdit_hmro => exact rfl); (case NoEdit_ty => k_is); (case NoEdit_l => k_is); (case NoEdit_c => k_is); (case NoEdit_k => k_is)
    case NoEdit_na =>
      exact fun _ h => nomatch h
    (case NoText_ns => k_is); (case NoText_hin => kx_is); (case NoText_hov => kx_is); (case NoText_sa => k_is); (case NoText_iC => k_is); (case NoText_tI => k_is); (case NoText_kC => k_is); (case NoText_ga => k_is); (case NoText_gg => k_is); (case NoText_exC => k_is); (case NoText_hd => k_is); (case NoText_ha => k_is); (case NoText_hn => k_is); (case NoText_ht => k_is); (case NoText_hm => k_is); (case NoText_hcd => k_is); (case NoText_hmro => exact rfl); (case NoText_ty => k_is); (case NoText_l => k_is); (case NoText_c => k_is); (case NoText_k => k_is)
    case NoText_na =>
      refine List.forall_mem_cons.mpr ⟨?_, ?_⟩; (k_is)
      exact fun _ h => nomatch h
    (case NoCommand_ns => k_is); (case NoCommand_hin => kx_is); (case NoCommand_hov => kx_is); (case NoCommand_sa => k_is); (case NoCommand_iC => k_is); (case NoCommand_tI => k_is); (case NoCommand_kC => k_is); (case NoCommand_ga => k_is); (case NoCommand_gg => k_is); (case NoCommand_exC => k_is); (case NoCommand_hd => k_is); (case NoCommand_ha => k_is); (case NoCommand_hn => k_is); (case NoCommand_ht => k_is); (case NoCommand_hm => k_is); (case NoCommand_hcd => k_is); (case NoCommand_hmro => exact rfl); (case NoCommand_ty => k_is); (case NoCommand_l => k_is); (case NoCommand_c => k_is); (case NoCommand_k => k_is)
    case NoCommand_na =>
      refine List.forall_mem_cons.mpr ⟨?_, ?_⟩; (k_is)
      exact fun _ h => nomatch h
    case nd => decide
    case z =>
      refine List.forall_mem_cons.mpr ⟨?_, ?_⟩; (k_is)
      refine List.forall_mem_cons.mpr ⟨?_, ?_⟩; (k_is)
      refine List.forall_mem_cons.mpr ⟨?_, ?_⟩; (k_is)
      refine List.forall_mem_cons.mpr ⟨?_, ?_⟩; (k_is)
      refine List.forall_mem_cons.mpr ⟨?_, ?_⟩; (k_is)
      refine List.forall_mem_cons.mpr ⟨?_, ?_⟩; (k_is)
      refine List.forall_mem_cons.mpr ⟨?_, ?_⟩; (k_is)
      refine List.forall_mem_cons.mpr ⟨?_, ?_⟩; (k_is)
      refine List.forall_mem_cons.mpr ⟨?_, ?_⟩; (k_is)
      refine List.forall_mem_cons.mpr ⟨?_, ?_⟩; (k_is)
      refine List.forall_mem_cons.mpr ⟨?_, ?_⟩; (k_is)
      refine List.forall_mem_cons.mpr ⟨?_, ?_⟩; (k_is)
      refine List.forall_mem_cons.mpr ⟨?_, ?_⟩; (k_is)
      refine List.forall_mem_cons.mpr ⟨?_, ?_⟩; (k_is)
      refine List.forall_mem_cons.mpr ⟨?_, ?_⟩; (k_is)
      refine List.forall_mem_cons.mpr ⟨?_, ?_⟩; (k_is)
      refine List.forall_mem_cons.mpr ⟨?_, ?_⟩; (k_is)
      refine List.forall_mem_cons.mpr ⟨?_, ?_⟩; (k_is)
      refine List.forall_mem_cons.mpr ⟨?_, ?_⟩; (k_is)
      exact fun _ h => nomatch h
