import PyProof.Rows.All
import Wide.All
import OpenK.AllK
import Wide.FinOn
import HandS.ForMost
import HandS.IsInst
import HandS.Flow
import HandS.Wide
import HandS.Defaults
import HandS.Codes
import HandS.Bytes
import HandS.StrMore
import HandS.Walk
import HandS.More
import HandS.Conv
import HandS.Style
import HandS.FStr
import HandS.Star
import HandS.MakeKwOnly
import HandS.BytesMake
import KE.KBytesNew
import PySem.Challenge.RW_tarhouse_k03_names_and_paths
set_option Elab.async false
set_option linter.all false
set_option maxRecDepth 100000
set_option maxHeartbeats 8000000
namespace Th
open PySem PySem.Spec PyProof.Rows L2
section
variable {K : PySem.W.Frag} {σ : L2.St} {H : Hp} {Q : VK} {D : Ends} {t u : TS} {c : TT} {te ta tb tx : TE} {g : TG} {r r' : R2} {v x y : V} {i : Nat} {to tp : TO}
theorem r_seq (h : t { D with nx := u D } σ H) : tSeq t u D σ H := h
theorem r_if (h : c σ H fun b H1 => if b = true then t D σ H1 else u D σ H1) : tIfS c t u D σ H := h
theorem r_asg (h : te σ H fun x H1 => g x σ H1 D.nx) : tAsg te g D σ H := h
theorem r_ret (h : te σ H D.rt) : tRet te D σ H := h
theorem r_next (h : D.nx σ H) : tNext D σ H := h
theorem r_drop (h : te σ H fun _ H1 => D.nx σ H1) : tDrop te D σ H := h
theorem r_cont (h : D.ct σ H) : tCont D σ H := h
theorem r_brk (h : D.bk σ H) : tBreak D σ H := h
theorem r_gname {Q : L2.St → Hp → Prop} (h : Q (σ.set i (some v)) H) : gName i v σ H Q := h
theorem r_var (e : σ[i]? = some (some v)) (h : Q v H) : tVar i σ H Q := ⟨v, e, h⟩
theorem r_c (h : Q v H) : tC v σ H Q := h
theorem r_op (h : ta σ H fun x H1 => tb σ H1 fun y H2 => r x y H2 Q) : tOp r ta tb σ H Q := h
theorem r_un {r : V → Hp → VK → Prop} (h : ta σ H fun x H1 => r x H1 Q) : tUn r ta σ H Q := h
theorem r_neg {i : Int} (h : Q (.int (-i)) H) : rU (fun i => .int (-i)) (.int i) H Q := ⟨i, rfl, h⟩
theorem r_I0 {g : Int → Int → V} {i j : Int} (h : Q (g i j) H) : rI0 g (.int i) (.int j) H Q := ⟨i, j, rfl, rfl, h⟩
theorem r_I {C : Int → Int → Prop} {g : Int → Int → V} {i j : Int} (hc : C i j) (h : Q (g i j) H) : rI C g (.int i) (.int j) H Q := ⟨i, j, rfl, rfl, hc, h⟩
theorem r_test {t : TE} {Q : Bool → Hp → Prop} (h : t σ H fun x H' => ∃ k, x = .bl k ∧ Q k H') : tTest t σ H Q := h
theorem r_tB {t : TE} {Q : Bool → Hp → Prop} (h : t σ H fun x H' => ∃ k, x = .bl k ∧ Q k H') : tB t σ H Q := h
theorem r_bl {b : Bool} {P : Bool → Prop} (h : P b) : ∃ k, V.bl b = .bl k ∧ P k := ⟨b, rfl, h⟩
theorem r_not {t : TT} {Q : Bool → Hp → Prop} (h : t σ H fun c H1 => Q (!c) H1) : tNot t σ H Q := h
theorem r_and {t u : TT} {Q : Bool → Hp → Prop} (h : t σ H fun c H1 => if c = true then u σ H1 Q else Q false H1) : tAnd t u σ H Q := h
theorem r_or {t u : TT} {Q : Bool → Hp → Prop} (h : t σ H fun c H1 => if c = true then Q true H1 else u σ H1 Q) : tOr t u σ H Q := h
theorem r_ifE {t : TT} (h : t σ H fun c H1 => if c = true then ta σ H1 Q else tb σ H1 Q) : tIf t ta tb σ H Q := h
theorem r_notV {t : TE} (h : t σ H fun x H1 => ∃ k, x = .bl k ∧ Q (.bl (!k)) H1) : tNotV t σ H Q := h
theorem r_andV (h : ta σ H fun x H1 => ∃ k, x = .bl k ∧ if k = true then tb σ H1 Q else Q (.bl false) H1) : tAndV ta tb σ H Q := h
theorem r_orV (h : ta σ H fun x H1 => ∃ k, x = .bl k ∧ if k = true then Q (.bl true) H1 else tb σ H1 Q) : tOrV ta tb σ H Q := h
theorem r_chain (h : ta σ H fun x H1 => tb σ H1 fun y H2 => r x y H2 fun z H3 => ∃ k, z = .bl k ∧ (if k = true then tx σ H3 fun w' H4 => r' y w' H4 Q else Q (.bl false) H3)) : tChain r r' ta tb tx σ H Q := h
theorem r_iteD {p A B : Prop} [Decidable p] (h1 : p → A) (h2 : ¬ p → B) : if decide p = true then A else B := by
  by_cases h : p
  · rw [if_pos (decide_eq_true h)]; exact h1 h
  · rw [if_neg (by rw [decide_eq_false h]; exact Bool.false_ne_true)]; exact h2 h
theorem r_iteT {A B : Prop} (h : A) : if true = true then A else B := by rw [if_pos rfl]; exact h
theorem r_iteF {A B : Prop} (h : B) : if false = true then A else B := by rw [if_neg Bool.false_ne_true]; exact h
theorem r_iteB {b : Bool} {A B : Prop} (h1 : b = true → A) (h2 : b = false → B) : if b = true then A else B := by
  cases b with
  | true => exact r_iteT (h1 rfl)
  | false => exact r_iteF (h2 rfl)
theorem r_iteNT {A B : Prop} (h : B) : if (!true) = true then A else B := by rw [if_neg (by decide)]; exact h
theorem r_iteNF {A B : Prop} (h : A) : if (!false) = true then A else B := by rw [if_pos (by decide)]; exact h
theorem r_iteN {b : Bool} {A B : Prop} (h1 : b = false → A) (h2 : b = true → B) : if (!b) = true then A else B := by
  cases b with
  | true => exact r_iteNT (h2 rfl)
  | false => exact r_iteNF (h1 rfl)
theorem r_cb {r : List V → Hp → VK → Prop} {t : TA} (h : t σ H fun vs H1 => r vs H1 Q) : tCB r t σ H Q := h
theorem r_call {sp : Sp} {dvs : List V} {E : XK} {t : TA} (h : t σ H fun vs H1 => sp (vs ++ dvs) H1 Q E) : tCall sp dvs E t σ H Q := h
theorem r_nil {Q : List V → Hp → Prop} (h : Q [] H) : tNil σ H Q := h
theorem r_cons {tr : TA} {Q : List V → Hp → Prop} (h : ta σ H fun x H1 => tr σ H1 fun xs H2 => Q (x :: xs) H2) : tCons ta tr σ H Q := h
theorem r_lst {t : TA} (h : t σ H fun xs H1 => xs.length ≤ sizeLine ∧ ∀ p, H1 p = none → Q (.ref p) (upd H1 p (.lst xs))) : tLst t σ H Q := h
theorem r_tup {t : TA} (h : t σ H fun xs H1 => xs.length ≤ sizeLine ∧ ∀ p, H1 p = none → Q (.ref p) (upd H1 p (.tup xs))) : tTup t σ H Q := h
theorem r_new {n m : Nat} {P : Prop} (h : n ≤ m) (q : P) : n ≤ m ∧ P := ⟨h, q⟩
theorem r_ixL {p : Addr} {xs : List V} {i : Int} {v : V} (hp : SqL K H p xs) (hi : atI xs i = some v) (h : Q v H) : rIxL K (.ref p) (.int i) H Q := ⟨p, xs, i, v, rfl, rfl, hp, hi, h⟩
theorem r_ixT {p : Addr} {xs : List V} {i : Int} {v : V} (hp : SqT K H p xs) (hi : atI xs i = some v) (h : Q v H) : rIxT K (.ref p) (.int i) H Q := ⟨p, xs, i, v, rfl, rfl, hp, hi, h⟩
theorem r_gsub {ti : TE} {t : TSet} {Q : L2.St → Hp → Prop} (h : ta σ H fun o H1 => ti σ H1 fun i H2 => t o i v H2 fun H3 => Q σ H3) : gSub ta ti t v σ H Q := h
theorem r_setL {p : Addr} {xs : List V} {k : Int} {j : Nat} {Q : Hp → Prop} (hp : H p = some (.lst xs)) (hk : ixN xs.length k = some j) (h : Q (upd H p (.lst (xs.set j v)))) : rSetL (.ref p) (.int k) v H Q := ⟨p, xs, k, j, rfl, rfl, hp, hk, h⟩
theorem r_int1 {i : Int} (h : Q (.int i) H) : (fun (xs : List V) H (Q : VK) => (∃ i, xs = [V.int i] ∧ Q (V.int i) H) ∨ ∃ k, xs = [V.bl k] ∧ Q (V.int (if k = true then 1 else 0)) H) [.int i] H Q := .inl ⟨i, rfl, h⟩
theorem r_int1' {i : Int} (h : Q (.int i) H) : (∃ j, [V.int i] = [V.int j] ∧ Q (V.int j) H) ∨ ∃ k, [V.int i] = [V.bl k] ∧ Q (V.int (if k = true then 1 else 0)) H := .inl ⟨i, rfl, h⟩
/-! ### heaps -/
theorem upd_old {p a : Addr} {o x : HO} (hp : H p = none) (ha : H a = some x) : upd H p o a = some x := by rw [upd_ne (ne_of_none ha hp)]; exact ha
theorem upd_diff {p a : Addr} {o x : HO} (n : a ≠ p) (ha : H a = some x) : upd H p o a = some x := by rw [upd_ne n]; exact ha
/-- what is not at a stays -/
def But (a : Addr) (H H' : Hp) : Prop := ∀ b o, b ≠ a → H b = some o → H' b = some o
end
end Th
namespace Th
open PySem PySem.Spec PyProof.Rows L2
/-! ### calls of own defs, by one fact each -/
structure CalT (P : Program) (w : World) (K : PySem.W.Frag) (mg : Str → Option Value) (base : Heap) (k : Nat) (x : Str) (sp : Sp) : Prop where
  ex : ∃ (f : Addr) (fd : FuncData) (ps : List Str), FnOk P w K mg base CX0 k f fd ps sp ∧ mg x = some (.ref f) ∧ PySem.W.keepIn K (.ref f) = true ∧ Binds K fd ps []
structure CalK (P : Program) (w : World) (K : PySem.W.Frag) (mg : Str → Option Value) (base : Heap) (k : Nat) (x : Str) (ks : List Str) (sp : Sp) : Prop where
  ex : ∃ (f : Addr) (fd : FuncData) (ps : List Str), FnOk P w K mg base CX0 k f fd ps sp ∧ mg x = some (.ref f) ∧ PySem.W.keepIn K (.ref f) = true ∧ KBn K fd ps 0 ks (fun us ws => us ++ ws) (fun us ws => us ++ ws)
section
variable {X : Cx} {j k : Nat} {x : Str} {sp : Sp} {e : Expr} {es : List Expr} {p pos : Pos} {t tk : TA} {ks : List Str} {kws : List Keyword}
theorem pe_cc (c : CalT X.prog X.w X.K X.mg X.base k x sp) (hr : Room j X.A) (hk : k ≤ j) (hg : Gl X x) (ha : PA X (e :: es) t) (hdb : (x == ("__debug__" : Str)) = false := by decide)
    (he : starEach (e :: es) X.env = (false, eval e X.env) :: starEach es X.env := by rfl) (hpl : (backTo pos (starEach es X.env)).any (·.1) = false := by rfl) : PE X (.Call (.Name x p) (e :: es) [] pos) (tCall sp [] E0 t) := by
  obtain ⟨f, fd, ps, F, hm, kp, b⟩ := c.ex
  exact pe_call F (hr.mono hk) hg hm kp b .nil pass0 ha hdb he hpl
theorem pe_cc0 (c : CalT X.prog X.w X.K X.mg X.base k x sp) (hr : Room j X.A) (hk : k ≤ j) (hg : Gl X x) (hdb : (x == ("__debug__" : Str)) = false := by decide) : PE X (.Call (.Name x p) [] [] pos) (tCall sp [] E0 tNil) := by
  obtain ⟨f, fd, ps, F, hm, kp, b⟩ := c.ex
  exact pe_call0 F (hr.mono hk) hg hm kp b .nil pass0 hdb
/-- f(k = v, ..) -/
theorem pe_ck0 (c : CalK X.prog X.w X.K X.mg X.base k x ks sp) (hr : Room j X.A) (hk : k ≤ j) (hg : Gl X x) (hkw : PK X kws tk)
    (hall : (backToKw pos (keywordEach kws X.env)).all (·.1.isSome) = true := by rfl) (hks : (backToKw pos (keywordEach kws X.env)).filterMap (·.1) = ks := by rfl) (hdb : (x == ("__debug__" : Str)) = false := by decide)
    (hpl : ((backTo pos (starEach [] X.env)).any (·.1) || (backToKw pos (keywordEach kws X.env)).any (·.1.isNone)) = false := by rfl) :
    PE X (.Call (.Name x p) [] kws pos) (tCallN 0 ks.length sp (fun us ws => us ++ ws) E0 tNil tk) := by
  obtain ⟨f, fd, ps, F, hm, kp, b⟩ := c.ex
  constructor
  intro pins s σ H Q I h
  refine wpAny_Call_Name_kw (ld_glob I hg hm ?_ hdb)
  refine PySem.W.callWith_KW0 (h₀ := X.base) I.ok.mod.kin kp hall (thn (hkw.run pos pins s σ H _ I h) ?_) hpl
  rintro ws s2 ⟨zs, H2, I2, rz, l1, l2, q2⟩
  refine ⟨I2.kIn, ?_⟩
  rw [hks]
  exact run_fnN (us := []) (vs := []) F (hr.mono hk) b pass0 I2 .nil rz rfl l2 q2
end
section
variable {K : PySem.W.Frag} {σ : L2.St} {H : Hp} {Q : VK}
theorem r_callN {n m : Nat} {sp : Sp} {gV : List V → List V → List V} {E : XK} {t tk : TA} (h : t σ H fun vs H1 => tk σ H1 fun zs H2 => vs.length = n ∧ zs.length = m ∧ sp (gV vs zs) H2 Q E) : tCallN n m sp gV E t tk σ H Q := h
/-! ### built-in functions, by names -/
def rInt1 : List V → Hp → VK → Prop := fun xs H Q => ∃ i, xs = [.int i] ∧ Q (.int i) H
theorem call_rInt1 {X : Cx} : CallR X (.type "int") rInt1 := fun pins s σ H xs us Q I r h => call_int1 pins s σ H xs us Q I r (.inl h)
theorem r_rInt1 {i : Int} (h : Q (.int i) H) : rInt1 [.int i] H Q := ⟨i, rfl, h⟩
def rIntB : List V → Hp → VK → Prop := fun xs H Q => ∃ i, xs = [.bl i] ∧ Q (.int (if i then 1 else 0)) H
theorem call_rIntB {X : Cx} : CallR X (.type "int") rIntB := fun pins s σ H xs us Q I r h => call_int1 pins s σ H xs us Q I r (.inr h)
theorem r_rIntB {i : Bool} (h : Q (.int (if i then 1 else 0)) H) : rIntB [.bl i] H Q := ⟨i, rfl, h⟩
def rAbs : List V → Hp → VK → Prop := fun xs H Q => ∃ i, xs = [.int i] ∧ Q (.int (if i < 0 then -i else i)) H
theorem call_rAbs {X : Cx} : CallR X (.builtin "abs") rAbs := call_abs
theorem r_rAbs {i : Int} (h : Q (.int (if i < 0 then -i else i)) H) : rAbs [.int i] H Q := ⟨i, rfl, h⟩
def rMin2 : List V → Hp → VK → Prop := fun xs H Q => ∃ i j, xs = [.int i, .int j] ∧ Q (.int (if j < i then j else i)) H
theorem call_rMin2 {X : Cx} (hc : X.calm = true := by rfl) : CallR X (.builtin "min") rMin2 := call_min2 hc
theorem r_rMin2 {i j : Int} (h : Q (.int (if j < i then j else i)) H) : rMin2 [.int i, .int j] H Q := ⟨i, j, rfl, h⟩
def rMax2 : List V → Hp → VK → Prop := fun xs H Q => ∃ i j, xs = [.int i, .int j] ∧ Q (.int (if j > i then j else i)) H
theorem call_rMax2 {X : Cx} (hc : X.calm = true := by rfl) : CallR X (.builtin "max") rMax2 := call_max2 hc
theorem r_rMax2 {i j : Int} (h : Q (.int (if j > i then j else i)) H) : rMax2 [.int i, .int j] H Q := ⟨i, j, rfl, h⟩
def rLenQ (K : PySem.W.Frag) : List V → Hp → VK → Prop := fun xs H Q => ∃ p ys, xs = [.ref p] ∧ (SqL K H p ys ∨ SqT K H p ys) ∧ Q (.int ys.length) H
theorem call_rLenQ {X : Cx} : CallR X (.builtin "len") (rLenQ X.K) := call_len_seq
theorem r_rLenQ {p : Addr} {ys : List V} (hp : SqL K H p ys ∨ SqT K H p ys) (h : Q (.int ys.length) H) : rLenQ K [.ref p] H Q := ⟨p, ys, rfl, hp, h⟩
def rLenZ : List V → Hp → VK → Prop := fun xs H Q => ∃ z, xs = [.str z] ∧ z.length ≤ sizeLine ∧ Q (.int z.length) H
theorem call_rLenZ {X : Cx} : CallR X (.builtin "len") rLenZ := call_len_str
theorem r_rLenZ {z : Str} (hz : z.length ≤ sizeLine) (h : Q (.int z.length) H) : rLenZ [.str z] H Q := ⟨z, rfl, hz, h⟩
def rAddZ : R2 := fun x y H Q => ∃ i j, x = .str i ∧ y = .str j ∧ i.length + j.length ≤ sizeLine ∧ Q (.str (i ++ j)) H
theorem op_addZ {X : Cx} : OpR X (binaryOp .Add) rAddZ := op_add_str
theorem r_addZ {i j : Str} (hz : i.length + j.length ≤ sizeLine) (h : Q (.str (i ++ j)) H) : rAddZ (.str i) (.str j) H Q := ⟨i, j, rfl, rfl, hz, h⟩
def rInC : R2 := fun x y H Q => ∃ (c : Nat) (z : Str), x = .str ⟨#[c]⟩ ∧ y = .str z ∧ Q (.bl (decide (c ∈ z.cps.toList))) H
theorem op_inSign {X : Cx} : OpR X (compareOp .In) rInC := op_in_sign
theorem r_inC {c : Nat} {z : Str} (h : Q (.bl (decide (c ∈ z.cps.toList))) H) : rInC (.str ⟨#[c]⟩) (.str z) H Q := ⟨c, z, rfl, rfl, h⟩
theorem r_eq {x y : V} (hs : scal x y = true) (h : Q (.bl (decide (x = y))) H) : rEq x y H Q := ⟨hs, h⟩
theorem r_ne {x y : V} (hs : scal x y = true) (h : Q (.bl (!decide (x = y))) H) : rNe x y H Q := ⟨hs, h⟩
theorem r_cat {l b : Addr} {xs zs : List V} (hl : H l = some (.lst xs)) (hb : H b = some (.lst zs)) (hz : xs.length + zs.length ≤ sizeLine) (h : ∀ p, H p = none → Q (.ref p) (upd H p (.lst (xs ++ zs)))) : rCat (.ref l) (.ref b) H Q := ⟨l, b, xs, zs, rfl, rfl, hl, hb, hz, h⟩
theorem r_rep {l : Addr} {k : Int} {xs : List V} (hl : H l = some (.lst xs)) (h0 : -(2 ^ 63) ≤ k) (h1 : k < 2 ^ 63) (hz : xs.length * k.toNat ≤ sizeLine) (h : ∀ p, H p = none → Q (.ref p) (upd H p (.lst (List.replicate k.toNat xs).flatten))) : rRep (.ref l) (.int k) H Q := ⟨l, k, xs, rfl, rfl, hl, h0, h1, hz, h⟩
theorem r_append {l : Addr} {xs : List V} {y : V} (hl : H l = some (.lst xs)) (hz : xs.length < sizeLine) (h : Q .non (upd H l (.lst (xs ++ [y])))) : rAppend (.ref l) [y] H Q := ⟨l, xs, y, rfl, rfl, hl, hz, h⟩
theorem r_bm {T : String} {r : V → List V → Hp → VK → Prop} {to : TE} {t : TA} (h : to σ H fun x H1 => tyV K T x H1 ∧ t σ H1 fun xs H2 => r x xs H2 Q) : tBM K T r to t σ H Q := h
theorem r_tyL {p : Addr} {xs : List V} {P : Prop} (hp : H p = some (.lst xs)) (h : P) : tyV K "list" (.ref p) H ∧ P := ⟨.inl ⟨rfl, _, SqL.of hp⟩, h⟩
theorem r_all {a : Addr} {bs : List Bool} (hp : SqL K H a (bs.map V.bl)) (h : Q (.bl (bs.all id)) H) : rAll K [.ref a] H Q := ⟨a, bs, rfl, hp, h⟩
theorem r_any {a : Addr} {bs : List Bool} (hp : SqL K H a (bs.map V.bl)) (h : Q (.bl (bs.any id)) H) : rAny K [.ref a] H Q := ⟨a, bs, rfl, hp, h⟩
theorem call_all {X : Cx} (hc : X.calm = true := by rfl) : CallR X (.builtin "all") (rAll X.K) := cr_all hc
theorem call_any {X : Cx} (hc : X.calm = true := by rfl) : CallR X (.builtin "any") (rAny X.K) := cr_any hc
end
end Th
namespace Th
open PySem PySem.Spec PyProof.Rows L2
/-! ### a def that may lean on it that nothing is being shown (repr of a list, a tuple, a dict) -/
structure FnG (P : Program) (w : World) (K : PySem.W.Frag) (mg : Str → Option Value) (base : Heap) (k : Nat) (f : Addr) (fd : FuncData) (ps : List Str) (sp : Sp) : Prop where
  len : ∀ vs H Q E, sp vs H Q E → vs.length = ps.length
  run : ∀ (A : Around) (outer : List Env) (s : Shared) (H : Hp) (args : Args) (us : List Value) (vs : List V) (Q : VK) (E : XK), Room k A → A.guards = some [] →
    Env0 P w K mg base A outer s H → BindsTo s fd args (ps.zip us) → Vals vs us → sp vs H Q E → codeAny (model P w) A (.call (.ref f) args) (CR CX0 outer P w H s Q E) s
section
variable {P : Program} {w : World} {K : PySem.W.Frag} {mg : Str → Option Value} {base : Heap}
theorem Fun.okG {x qual : Str} {st : Stmt} {f : Addr} {fd : FuncData} {N ps : List Str} {k : Nat} {sp : Sp} (F : Fun K x qual st f fd) (S : FnScope N ps (defScope st)) (hlen : ∀ vs H Q E, sp vs H Q E → vs.length = ps.length)
    (body : ∀ (cdv : Value) (A : Around) (outer : List Env) (s : Shared) (H : Hp) (vs : List V) (Q : VK) (E : XK), Room k (A.deeper (envOfC qual (defScope st) s.heap.objs.size f cdv)) → A.guards = some [] → sp vs H Q E →
      ∃ t, PSs (cxOf CX0 P w K mg base N qual (defScope st) f cdv A outer s H E).nox (defBody st) t ∧ t { nx := fun _ H' => Q .non H', rt := Q } (start N vs) H) : FnG P w K mg base (k + 1) f fd ps sp := by
  obtain ⟨oc, od, kV, doc, pm, an, cdv, ct, osl, e, lk, hcd⟩ := F.ex
  subst e
  constructor
  · exact hlen
  · intro A outer s H args us vs Q E room gd env0 bnd rel wish
    have stands : ∀ b o, base.get? b = some o → s.heap.get? b = some o := fun b o e => (env0.bs b o e).1
    have kin := env0.mod.kin.keeps stands
    have nol := env0.mod.nolimit.keeps stands
    apply codeAny_call_function room.depth (kin _ _ lk) rfl S.co S.gen rfl (PySem.W.codeRec_of kin hcd)
    refine bnd _ _ _ _ (wpAny_newFunctionEnv_cells S.kind ?kinds ?go)
    case kinds =>
      rintro ⟨n, v⟩ hy
      cases S.par n (List.of_mem_zip hy).1 with
      | inl q => exact Or.inl q
      | inr q => exact Or.inr ⟨q, PySem.W.cellsFrom_some _ _ _ (Or.inl q)⟩
    case go =>
      intro env he s1 inside
      subst he
      refine ⟨nol.keeps inside.toInCall.keep, codeAny_func ?_⟩
      obtain ⟨t, derived, wished⟩ := body cdv A outer s H vs Q E (room.deeper _) gd wish
      have J := inv_start (CX := CX0) (E := E) S room.hd env0 (hlen _ _ _ _ wish) rel inside
      refine wpAny_mono (derived.nox.run [] s1 _ H _ J wished) ?_ (fun e s' z => z)
      intro fl s' z
      cases fl with
      | next =>
        obtain ⟨σ', H', J', q⟩ := z
        exact ⟨V.non, H', J'.os, J'.bare, J'.base, J'.hok, rfl, q⟩
      | ret u =>
        obtain ⟨v, σ', H', J', rv, q⟩ := z
        exact ⟨v, H', J'.os, J'.bare, J'.base, J'.hok, rv, q⟩
      | brk =>
        obtain ⟨_, _, _, q⟩ := z
        exact q.elim
      | cont =>
        obtain ⟨_, _, _, q⟩ := z
        exact q.elim
/-- the law's own call -/
theorem lawG {k : Nat} {mb : Str → Option Value} {fa a : Addr} {fd : FuncData} {x : Str} {sp : Sp} {s₁ : Shared} {vs : List Value} {ns : List Int}
    (KX : K.In s₁.heap) (hns : s₁.heap.Ns mainGlobals mg) (hb : s₁.heap.Ns builtinsNs mb) (hbb : ∀ x : Str, x ≠ "__name__" → mb x = bootBuiltins x) (hlim : s₁.heap.NoLimit) (hg : s₁.gens = #[])
    (ha : s₁.heap.get? a = some { cls := .type "list", data := .seq vs.toArray }) (hi : IntsAre vs ns) (hl : ns.length ≤ sizeLine) (room : Room k callerA)
    (F : ∀ base : Heap, K.In base → base.Ns mainGlobals mg → FnG P w K mg base k fa fd [x] sp) (hbind : ∀ (s : Shared) (u : Value), BindsTo s fd ⟨[u], []⟩ [(x, u)])
    (hsp : ∀ H : Hp, Only H → SqL K H a (ns.map V.int) → sp [.ref a] H (fun v _ => v = .bl true) fun _ _ _ => False) :
    codeAny (model P w) callerA (.call (.ref fa) ⟨[.ref a], []⟩) (fun r s' => r = .ok (.ret (.bool true)) ∧ OldK s₁.heap s'.heap ∧ s'.os = s₁.os ∧ AllBare s'.gens) s₁ := by
  have rv : Vals (ns.map V.int) vs := vals_ints hi
  have hlen : vs.length = ns.length := by have := rv.length; rw [List.length_map] at this; omega
  have main : ∀ H : Hp, Only H → SqL K H a (ns.map V.int) → HOk P w H s₁.heap → (∀ b u, H b = some u → b = a) → (∀ u, H a = some u → K.lookup a = none) →
      codeAny (model P w) callerA (.call (.ref fa) ⟨[.ref a], []⟩) (fun r s' => r = .ok (.ret (.bool true)) ∧ OldK s₁.heap s'.heap ∧ s'.os = s₁.os ∧ AllBare s'.gens) s₁ := by
    intro H only sq hok onlyA notK
    have dictFree : ∀ (b : Addr) (o : Obj) (es : Array DictEntry) (ep : Nat), s₁.heap.get? b = some o → o.data = .dict es ep → H b = none := by
      intro b o es ep ho hd
      cases hq : H b with
      | none => rfl
      | some u =>
        rw [onlyA b u hq, ha] at ho
        cases ho
        exact nomatch hd
    have nsB : ∀ {b : Addr} {m : Str → Option Value}, s₁.heap.Ns b m → (hidT s₁.heap H).Ns b m := by
      rintro b m ⟨o, es, ep, ho, hd, rest⟩
      exact ⟨o, es, ep, hidT_get ho (dictFree b o es ep ho hd), hd, rest⟩
    have kB : K.In (hidT s₁.heap H) := by
      intro b o ho
      refine hidT_get (KX b o ho) ?_
      cases hq : H b with
      | none => rfl
      | some u =>
        have hba := onlyA b u hq
        rw [hba] at ho hq
        rw [notK u hq] at ho
        cases ho
    obtain ⟨mc, lim1, lim2⟩ := hlim
    have modl : Mod K mg (hidT s₁.heap H) := ⟨kB, nsB hns, ⟨mb, nsB hb, hbb⟩, ⟨mc, nsB lim1, lim2⟩⟩
    have noFr : ∀ b ∈ frs [], H b = none := fun b z => by cases z
    have E0' : Env0 P w K mg (hidT s₁.heap H) callerA [] s₁ H := ⟨rfl, modl, fun b o e => of_hidT e, by rw [hidT_size]; exact Nat.le_refl _, trivial, noFr, hok, .of_eq hg⟩
    have ran := (F _ kB (nsB hns)).run callerA [] s₁ H ⟨[.ref a], []⟩ [.ref a] [.ref a] _ _ room rfl E0' (hbind s₁ (.ref a)) (.cons rfl .nil) (hsp H only sq)
    refine codeAny_mono ran ?_
    intro r s' z
    cases r with
    | error e => exact False.elim z
    | ok fl =>
      cases fl with
      | ret u =>
        obtain ⟨v, H', os, bare, un, hok', rel, isT⟩ := z
        have isT' : v = .bl true := isT
        rw [isT'] at rel
        have hu : u = Value.bool true := rel
        refine ⟨by rw [hu], OldK.of_keep ?_, os, bare⟩
        intro b o ho
        cases hq : H b with
        | none => exact un.keep b o ho hq (fun z => by cases z) (fun z => by cases z)
        | some u2 =>
          cases only b with
          | inl z => rw [hq] at z; cases z
          | inr z =>
            obtain ⟨ob, xs, z⟩ := z
            have ⟨g1, _⟩ := hok b _ z
            have ⟨g2, _⟩ := hok' b _ (un.frzs b ob _ z)
            rw [ho] at g1
            cases g1
            exact g2
      | next => exact False.elim z
      | brk => exact False.elim z
      | cont => exact False.elim z
  by_cases hk : K.lookup a = none
  · let script : HO := .frz { cls := .type "list", data := .seq vs.toArray } (.lst (ns.map V.int))
    have atA : ∀ b u, (if b = a then some script else none) = some u → b = a ∧ u = script := by
      intro b u z
      by_cases e : b = a
      · rw [if_pos e] at z; cases z; exact ⟨e, rfl⟩
      · rw [if_neg e] at z; cases z
    refine main (fun b => if b = a then some script else none) ?_ (.inl (.inr ⟨_, if_pos rfl⟩)) ?_ (fun b u z => (atA b u z).1) (fun _ _ => hk)
    · intro b
      by_cases e : b = a
      · exact .inr ⟨_, _, if_pos e⟩
      · exact .inl (if_neg e)
    · intro b u z
      obtain ⟨e1, e2⟩ := atA b u z
      rw [e1, e2]
      exact ⟨ha, by rw [List.length_map]; exact hl, vs, _, rv, ha⟩
  · obtain ⟨o, ho⟩ : ∃ o, K.lookup a = some o := by
      cases q : K.lookup a with
      | none => exact absurd q hk
      | some o => exact ⟨o, rfl⟩
    have same := KX a o ho
    rw [ha] at same
    cases same
    exact main (fun _ => none) (fun _ => .inl rfl) (.inr ⟨_, vs.toArray, _, ho, rfl, rfl, rfl, by rw [List.size_toArray, hlen]; exact hl, rv⟩) (fun b u z => nomatch z) (fun b u z => nomatch z) (fun u z => nomatch z)
end
/-- the goal that k_head leaves, from the law's promise -/
theorem walkG {l : PySem.W.OpenLaw} {n k : Nat} {q : Program} {loose : List Str} {XP : (Str → Option Value) → Heap → Prop} {YP : World → Heap → Prop} {d : DefRec} {K : Params → PySem.W.Frag} {sp : World → Sp} {x : Str}
    (hn : l.most = some n) (hn2 : n ≤ sizeLine) (hdf : d.params.defaults = []) (room : Room k callerA) (hY : ∀ (w : World) (h : Heap), YP w h → (K w.params).In h)
    (F : ∀ (w : World) (mg : Str → Option Value) (fa : Addr) (h : Heap), (K w.params).In h → h.Ns mainGlobals mg → mg d.name = some (.ref fa) →
      ∃ fd : FuncData, (∀ (s : Shared) (u : Value), BindsTo s fd ⟨[u], []⟩ [(x, u)]) ∧ ∀ base : Heap, (K w.params).In base → base.Ns mainGlobals mg → FnG l.prog w (K w.params) mg base k fa fd [x] (sp w))
    (hsp : ∀ (w : World) (H : Hp) (a : Addr) (ns : List Int), ns.length ≤ n → Only H → SqL (K w.params) H a (ns.map V.int) → sp w [.ref a] H (fun v _ => v = .bl true) fun _ _ _ => False) :
    PySem.W.WalkO q loose XP YP l.row.toRowW d [] (fun f vs => PySem.call f vs) := by
  apply Att.attach_call hn hdf
  intro w s₀ s₁ mg mb fa o pm cd doc a vs ns G Y ho hd hcd hmg hobj hints hlen hg
  obtain ⟨fd, bnd, every⟩ := F w mg fa _ (hY w _ Y) G.T.g hmg
  exact lawG (hY w _ Y) G.T.g G.T.b G.T.builtins G.T.nolimit hg hobj hints (Nat.le_trans hlen hn2) room every bnd (fun H only sq => hsp w H a ns hlen only sq)
/-! ### repr of data -/
def rRepr (K : PySem.W.Frag) : List V → Hp → VK → Prop := fun xs H Q => ∃ a d, xs = [.ref a] ∧ Dp K H (.ref a) d ∧ d.showable = true ∧ d.hasDict = false ∧ d.depth < 60 ∧ d.shown.length ≤ sizeLine ∧ Q (.str d.shown) H
theorem call_rRepr {X : Cx} (gd : X.A.guards = some []) (hu : X.A.units + 64 < cLine) : CallR X (.builtin "repr") (rRepr X.K) := by
  intro pins s σ H xs us Q I r h
  obtain ⟨a, d, rfl, hd, h1, h2, h3, h4, q⟩ := h
  obtain ⟨u, rfl, rx⟩ := vals1 r
  obtain ⟨as, rd⟩ := Dp.reads I d _ u hd rx
  have hu' : u = Value.ref a := rx
  subst hu'
  refine repr_of_reads' rd h1 (fun z => by rw [h2] at z; cases z) gd (by omega) (fun b o e => e) (fun h' t tk kept => ?_) h4
  exact ⟨.str d.shown, H, I.kept kept, ⟨_, rfl⟩, q⟩
theorem r_repr {K : PySem.W.Frag} {H : Hp} {Q : VK} {a : Addr} {d : PyData} (hd : Dp K H (.ref a) d) (h1 : d.showable = true) (h2 : d.hasDict = false) (h3 : d.depth < 60) (h4 : d.shown.length ≤ sizeLine) (h : Q (.str d.shown) H) : rRepr K [.ref a] H Q := ⟨a, d, rfl, hd, h1, h2, h3, h4, h⟩
/-! ### a text times an int -/
theorem fold_rep (a : Array Nat) : ∀ (n : Nat) (acc : Array Nat), ((List.replicate n a).foldl (· ++ ·) acc).toList = acc.toList ++ (List.replicate n a.toList).flatten
  | 0, acc => by simp
  | n + 1, acc => by
    rw [List.replicate_succ, List.foldl_cons, fold_rep a n, List.replicate_succ, List.flatten_cons, Array.toList_append, List.append_assoc]
theorem fold_rep_size (a : Array Nat) (n : Nat) : ((List.replicate n a).foldl (· ++ ·) #[]).size = n * a.size := by
  have h := congrArg List.length (fold_rep a n #[])
  simpa using h
def repZ (z : Str) (k : Int) : Str := if k < 1 then Str.empty else if (k == 1 || z.length == 0) = true then z else ⟨(List.replicate k.toNat z.cps).foldl (· ++ ·) #[]⟩
def rMulZ : R2 := fun x y H Q => ∃ z k, x = .str z ∧ y = .int k ∧ z.length ≤ 1000 ∧ -(2 ^ 62) ≤ k ∧ k ≤ 5000 ∧ Q (.str (repZ z k)) H
theorem op_mulS {X : Cx} : OpR X (binaryOp .Mult) rMulZ := by
  intro pins s σ H x y v u Q I rx ry h
  obtain ⟨z, k, rfl, rfl, hz, h0, h1, q⟩ := h
  obtain ⟨t, rfl⟩ := rx
  obtain ⟨t', rfl⟩ := ry
  have hzi : (z.length : Int) ≤ 1000 := by omega
  refine PySem.P.mul_str ?_ (fun hk _ => ?_) (fun hk _ => ?_) ?_
  · rw [decide_eq_false (by omega : ¬ k < -(2 ^ 63 : Int)), decide_eq_false (by omega : ¬ k ≥ 2 ^ 63)]; rfl
  · intro hbig
    have hd : (5000 : Int) ≤ (2 ^ 63 - 1) / k := by
      rw [Int.le_ediv_iff_mul_le (by omega)]
      have : (5000 : Int) * k ≤ 5000 * 5000 := Int.mul_le_mul_of_nonneg_left h1 (by decide)
      omega
    omega
  · unfold Builtin.Str.tooLong
    rw [decide_eq_false]
    have hk5 : k.toNat ≤ 5000 := by omega
    have := Nat.mul_le_mul hz hk5
    rw [sizeLine_eq]
    omega
  · unfold repZ at q
    by_cases c1 : k < 1
    · rw [if_pos c1] at q ⊢
      exact ⟨by decide, ⟨.str _, H, I.tok _, ⟨_, rfl⟩, q⟩⟩
    · rw [if_neg c1] at q ⊢
      by_cases c2 : (k == 1 || z.length == 0) = true
      · rw [if_pos c2] at q ⊢
        exact ⟨.str z, H, I, ⟨t, rfl⟩, q⟩
      · rw [if_neg c2] at q ⊢
        refine ⟨?_, ⟨.str _, H, I.tok _, ⟨_, rfl⟩, q⟩⟩
        show ((List.replicate k.toNat z.cps).foldl (· ++ ·) #[]).size ≤ sizeLine
        rw [fold_rep_size]
        have hk5 : k.toNat ≤ 5000 := by omega
        have hz' : z.cps.size ≤ 1000 := hz
        have := Nat.mul_le_mul hk5 hz'
        rw [sizeLine_eq]
        omega
theorem repZ_list (z : Str) (k : Int) : (repZ z k).cps.toList = (List.replicate k.toNat z.cps.toList).flatten := by
  unfold repZ
  by_cases c1 : k < 1
  · rw [if_pos c1, show k.toNat = 0 by omega]; rfl
  · rw [if_neg c1]
    by_cases c2 : (k == 1 || z.length == 0) = true
    · rw [if_pos c2]
      simp only [Bool.or_eq_true, beq_iff_eq] at c2
      rcases c2 with c2 | c2
      · subst c2; simp
      · have e : z.cps.toList = [] := by
          have : z.cps.size = 0 := c2
          simpa using this
        rw [e]; simp
    · rw [if_neg c2]
      show ((List.replicate k.toNat z.cps).foldl (· ++ ·) #[]).toList = _
      rw [fold_rep]; rfl
theorem repZ_len (z : Str) (k : Int) : (repZ z k).length = k.toNat * z.length := by
  have h := congrArg List.length (repZ_list z k)
  simpa [Str.length] using h
theorem r_mulZ {H : Hp} {Q : VK} {z : Str} {k : Int} (hz : z.length ≤ 1000) (h0 : -(2 ^ 62) ≤ k) (h1 : k ≤ 5000) (h : Q (.str (repZ z k)) H) : rMulZ (.str z) (.int k) H Q := ⟨z, k, rfl, rfl, hz, h0, h1, h⟩
/-! ### comprehensions without a test, whose element only reads (and makes) -/
theorem same_new {H : Hp} {p : Addr} {o : HO} (h : H p = none) : Same H (upd H p o) := fun b u e => by rw [upd_ne (ne_of_none e h)]; exact e
theorem walk_strC {z : Str} : Walk (Its z) (z.cps.toList.map fun c => V.str ⟨#[c]⟩).length (fun _ => True) (YAt (z.cps.toList.map fun c => V.str ⟨#[c]⟩)) := by
  have e : (z.cps.toList.map fun c => V.str ⟨#[c]⟩).length = z.cps.size := by simp
  rw [e]
  refine walk_str.mono (fun _ h => h) ?_
  rintro i H x H' hi _ ⟨e1, c, hc, rfl⟩
  refine ⟨e1, ?_⟩
  rw [List.getElem?_map, Array.getElem?_toList, hc]
  rfl
theorem lc_map {α : Type} {J : It} {cs : List α} {enc f : α → V} {G : Hp → Prop} (w : Walk J (cs.map enc).length G (YAt (cs.map enc))) {j : Nat} {vs : List Nat} {σ : L2.St} {H1 : Hp} {D : Addr} {te : TE} {Qd : Hp → Prop}
    (hD : H1 D = none) (hz : cs.length < sizeLine) (hG : ∀ H', Same H1 H' → G H') (hw : ∀ x, wipe ((wipe σ vs).set j (some x)) vs = wipe σ vs)
    (he : ∀ c ∈ cs, ∀ H', Same H1 H' → ∀ Q : VK, (∀ H2, Same H' H2 → Q (f c) H2) → te ((wipe σ vs).set j (some (enc c))) H' Q)
    (hd : ∀ H', Same H1 H' → H' D = some (.lst (cs.map f)) → Qd H') :
    ∃ W : Nat → Nat → Hp → Prop, (∃ m, W 0 m (upd H1 D (.lst []))) ∧ ∀ i m H, W i m H →
      (J.stop i H ∧ Qd H) ∨ (J.go i H ∧ ∃ Nx : Hp → Prop, (∀ H', Nx H' → ∃ m', m' < m ∧ W (i + 1) m' H') ∧ ∀ x H', J.yld i H x H' → gName j x (wipe σ vs) H' fun σ2 H2 => wipe σ2 vs = wipe σ vs ∧ tYes σ2 H2 fun b H3 =>
        if b = true then te σ2 H3 fun y H4 => ∃ acc, H4 D = some (.lst acc) ∧ acc.length < sizeLine ∧ Nx (upd H4 D (.lst (acc ++ [y]))) else Nx H3) := by
  refine lc_it w (fun i H => Same H1 H ∧ H D = some (.lst ((cs.take i).map f))) ⟨same_new hD, by rw [upd_same]; rfl⟩ (fun i H _ p => hG H p.1) ?_ ?_
  · rintro i x H H' hi ⟨s1, hl⟩ ⟨rfl, hx⟩
    rw [List.length_map] at hi
    have hx' : x = enc cs[i] := by
      rw [List.getElem?_map, List.getElem?_eq_getElem hi] at hx
      exact (Option.some.inj hx).symm
    subst hx'
    refine ⟨hw _, ?_⟩
    unfold tYes
    dsimp only
    rw [if_pos rfl]
    refine he cs[i] (List.getElem_mem hi) H' s1 _ ?_
    intro H2 s2
    refine ⟨_, s2 _ _ hl, ?_, ?_, ?_⟩
    · rw [List.length_map, List.length_take]; omega
    · intro b o e
      have nb : b ≠ D := ne_of_none e hD
      rw [upd_ne nb]
      exact s2 _ _ (s1 _ _ e)
    · rw [upd_same, ← List.take_append_getElem hi, List.map_append]
      rfl
  · rintro H ⟨s1, hl⟩
    rw [List.length_map, List.take_length] at hl
    exact hd H s1 hl
/-! ### isinstance of values of built-in types -/
theorem r_isi {K : PySem.W.Frag} {H : Hp} {Q : VK} {x : V} {T n : String} (b : Bool) (ht : TyX K H x (.type T)) (hk : kitB T n = some b) (h : Q (.bl b) H) : rIsi K [x, .ty n] H Q := ⟨x, .ty n, .type T, .type n, b, rfl, .ty n, ht, kit_ty hk, h⟩
theorem r_isiT2 {K : PySem.W.Frag} {H : Hp} {Q : VK} {x : V} {T n m : String} {tp : Addr} (b c : Bool) (hT : H tp = some (.tup [.ty n, .ty m])) (ht : TyX K H x (.type T)) (hk : kitB T n = some b) (hk2 : kitB T m = some c) (h : Q (.bl (b || c)) H) : rIsiT K [x, .ref tp] H Q := by
  refine ⟨x, tp, _, .type T, [.type n, .type m], (b || c), rfl, hT, .cons (.ty n) (.cons (.ty m) .nil), ht, ?_, h⟩
  refine kitAny_cons (b := b) (kit_ty hk) (fun e => ?_) (fun e => by rw [e]; rfl)
  refine kitAny_cons (b := c) (kit_ty hk2) (fun e2 => ?_) (fun e2 => by rw [e2]; simp)
  rw [e, e2]
  exact kitAny_nil
theorem same_tyB {K : PySem.W.Frag} {H H' : Hp} {x : V} {t : Value} (e : Same H H') (h : TyX K H x t) : TyX K H' x t := by
  cases h with
  | base b =>
    cases b with
    | non => exact .base .non
    | bl y => exact .base (.bl y)
    | int y => exact .base (.int y)
    | str y => exact .base (.str y)
    | flt y => exact .base (.flt y)
    | lst z => exact .base (.lst (e _ _ z))
    | frz z => exact .base (.frz (e _ _ z))
    | tup z => exact .base (.tup (e _ _ z))
    | dK z => exact .base (.dK (e _ _ z))
    | dT z => exact .base (.dT (e _ _ z))
    | ins z cl ha hn htk hm => exact .base (.ins (e _ _ z) cl ha hn htk hm)
  | byt y => exact .byt y
  | set z => exact .set (e _ _ z)
  | kList z c => exact .kList z c
  | kTuple z c => exact .kTuple z c
  | kDict z c => exact .kDict z c
  | fTuple z => exact .fTuple (e _ _ z)
  | fDict z => exact .fDict (e _ _ z)
theorem r_r1 {H : Hp} {Q : VK} {k : V → Hp → VK → Prop} {x : V} (h : k x H Q) : r1 k [x] H Q := h
theorem r_bytesL {K : PySem.W.Frag} {H : Hp} {Q : VK} {p : Addr} {ns : List Int} (hp : SqL K H p (ns.map V.int)) (hn : ∀ n ∈ ns, 0 ≤ n ∧ n < 256) (h : Q (.byt (byteArr ns)) H) : kByts K (.ref p) H Q := .inr ⟨p, ns, rfl, hp, hn, h⟩
/-! ### walks -/
theorem r_lc {wi : TI} {g : TG} {tt : TT} {te : TE} {vs : List Nat} {σ : L2.St} {H : Hp} {Q : VK} (h : wi σ H fun J H1 => ∀ D, H1 D = none → ∃ W : Nat → Nat → Hp → Prop, (∃ m, W 0 m (upd H1 D (.lst []))) ∧ ∀ i m H, W i m H →
  (J.stop i H ∧ Q (.ref D) H) ∨ (J.go i H ∧ ∃ Nx : Hp → Prop, (∀ H', Nx H' → ∃ m', m' < m ∧ W (i + 1) m' H') ∧ ∀ x H', J.yld i H x H' → g x (wipe σ vs) H' fun σ2 H2 => wipe σ2 vs = wipe σ vs ∧ tt σ2 H2 fun b H3 =>
    if b = true then te σ2 H3 fun y H4 => ∃ acc, H4 D = some (.lst acc) ∧ acc.length < sizeLine ∧ Nx (upd H4 D (.lst (acc ++ [y]))) else Nx H3)) : tLc wi g tt te vs σ H Q := h
theorem r_for {wi : TI} {g : TG} {tb : TS} {D : Ends} {σ : L2.St} {H : Hp} (h : wi σ H fun J H1 => ∃ W : Nat → Nat → L2.St → Hp → Prop, (∃ m, W 0 m σ H1) ∧ ∀ i m σ H, W i m σ H →
  (J.stop i H ∧ D.nx σ H) ∨ (J.go i H ∧ ∃ N : L2.St → Hp → Prop, (∀ σ' H', N σ' H' → ∃ m', m' < m ∧ W (i + 1) m' σ' H') ∧ ∀ x H', J.yld i H x H' → g x σ H' fun σ2 H2 => tb { D with nx := N, ct := N, bk := D.nx } σ2 H2)) : tFor wi g tb D σ H := h
theorem r_iStr {te : TE} {σ : L2.St} {H : Hp} {R : It → Hp → Prop} (h : te σ H fun v H1 => ∃ x, v = .str x ∧ R (Its x) H1) : iStr te σ H R := h
theorem r_strE {z : Str} {P : Str → Prop} (h : P z) : ∃ x, V.str z = .str x ∧ P x := ⟨z, rfl, h⟩
theorem r_iList {K : PySem.W.Frag} {tl : TE} {σ : L2.St} {H : Hp} {R : It → Hp → Prop} (h : tl σ H fun x H1 => ∃ a, x = .ref a ∧ (∃ xs, SqL K H1 a xs) ∧ R (Itl K a) H1) : iList K tl σ H R := h
theorem r_listE {K : PySem.W.Frag} {H : Hp} {a : Addr} {xs : List V} {P : Addr → Prop} (hp : SqL K H a xs) (h : P a) : ∃ b, V.ref a = .ref b ∧ (∃ xs, SqL K H b xs) ∧ P b := ⟨a, rfl, ⟨xs, hp⟩, h⟩
theorem r_iRng1 {ta : TA} {σ : L2.St} {H : Hp} {R : It → Hp → Prop} (h : ta σ H fun vs H1 => ∃ j : Int, vs = [.int j] ∧ -(2 ^ 62) ≤ j ∧ j < 2 ^ 62 ∧ R (Itr 0 j.toNat) H1) : iRng1 ta σ H R := h
theorem r_rngE {j : Int} {P : Int → Prop} (h0 : -(2 ^ 62) ≤ j) (h1 : j < 2 ^ 62) (h : P j) : ∃ i : Int, [V.int j] = [.int i] ∧ -(2 ^ 62) ≤ i ∧ i < 2 ^ 62 ∧ P i := ⟨j, rfl, h0, h1, h⟩
/-! ### texts cut at a sign; in a written tuple -/
def rSplit : V → List V → Hp → VK → Prop := fun x xs H Q => ∃ a b, x = .str a ∧ xs = [.str b] ∧ (b.length == 0) = false ∧ a.length + 2 ≤ sizeLine ∧ rNewStrs (Txt.split a b) H Q
theorem pe_splitN {X : Cx} {E : Expr} {to te : TE} (hst : PE X E (tM1 (fun x xs H Q => ∃ a b, x = .str a ∧ xs = [.str b] ∧ (b.length == 0) = false ∧ a.length + 2 ≤ sizeLine ∧ rNewStrs (Txt.split a b) H Q) to te)) : PE X E (tM1 rSplit to te) := hst
section
variable {K : PySem.W.Frag} {σ : L2.St} {H : Hp} {Q : VK}
theorem r_m1 {r : V → List V → Hp → VK → Prop} {to te : TE} (h : to σ H fun x H1 => (∃ a, x = .str a) ∧ te σ H1 fun y H2 => r x [y] H2 Q) : tM1 r to te σ H Q := h
theorem r_isZ {z : Str} {P : Prop} (h : P) : (∃ a, V.str z = .str a) ∧ P := ⟨⟨z, rfl⟩, h⟩
theorem r_split {a b : Str} (hb : (b.length == 0) = false) (ha : a.length + 2 ≤ sizeLine) (h : ∀ p, H p = none → Q (.ref p) (upd H p (.lst ((Txt.split a b).map V.str)))) : rSplit (.str a) [.str b] H Q := ⟨a, b, rfl, rfl, hb, ha, h⟩
theorem r_inT {p : Addr} {x : V} {xs : List V} (hp : SqT K H p xs) (hx : flatV x = true) (ha : xs.all flatV = true) (h : Q (.bl (inV x xs)) H) : rIn K false x (.ref p) H Q := ⟨p, xs, rfl, .inr hp, hx, ha, h⟩
theorem r_inL {p : Addr} {x : V} {xs : List V} (hp : SqL K H p xs) (hx : flatV x = true) (ha : xs.all flatV = true) (h : Q (.bl (inV x xs)) H) : rIn K false x (.ref p) H Q := ⟨p, xs, rfl, .inl hp, hx, ha, h⟩
theorem r_slS {z : Str} {lo hi : Option Int} (hz : z.length ≤ sizeLine) (h : Q (.str (cutS z lo hi)) H) : rSlS (.str z) lo hi H Q := ⟨z, rfl, hz, h⟩
theorem r_sl {r : V → Option Int → Option Int → Hp → VK → Prop} {te : TE} {tl th : TO} (h : te σ H fun x H1 => tl σ H1 fun l H2 => th σ H2 fun u H3 => r x l u H3 Q) : tSl r te tl th σ H Q := h
theorem r_noPart {Q : Option Int → Hp → Prop} (h : Q none H) : tNoPart σ H Q := h
theorem r_part {t : TE} {Q : Option Int → Hp → Prop} (h : t σ H fun x H1 => ∃ i, x = .int i ∧ Q (some i) H1) : tPart t σ H Q := h
theorem r_partE {i : Int} {P : Int → Prop} (h : P i) : ∃ j, V.int i = .int j ∧ P j := ⟨i, rfl, h⟩
theorem r_ixS {z : Str} {i : Int} {c : Nat} (hz : z.length ≤ sizeLine) (hc : atI z.cps.toList i = some c) (h : Q (.str ⟨#[c]⟩) H) : rIxS (.str z) (.int i) H Q := ⟨z, i, c, rfl, rfl, hz, hc, h⟩
end
/-! ### rules that lean on the written part, with it told -/
theorem op_inK {X : Cx} (K : PySem.W.Frag) (h : X.K = K := by rfl) : OpR X (compareOp .In) (rIn K false) := h ▸ op_in_seq
theorem op_notInK {X : Cx} (K : PySem.W.Frag) (h : X.K = K := by rfl) : OpR X (compareOp .NotIn) (rIn K true) := h ▸ op_notIn_seq
theorem ix_listK {X : Cx} (K : PySem.W.Frag) (h : X.K = K := by rfl) : IxR X (rIxL K) := h ▸ ix_list
theorem ix_tupK {X : Cx} (K : PySem.W.Frag) (h : X.K = K := by rfl) : IxR X (rIxT K) := h ▸ ix_tup
theorem call_lenK {X : Cx} (K : PySem.W.Frag) (h : X.K = K := by rfl) : CallR X (.builtin "len") (rLenQ K) := h ▸ call_rLenQ
theorem call_isiK1 {X : Cx} (K : PySem.W.Frag) (h : X.K = K := by rfl) : CallR X (.builtin "isinstance") (rIsi K) := h ▸ call_isi
theorem call_isiK2 {X : Cx} (K : PySem.W.Frag) (h : X.K = K := by rfl) : CallR X (.builtin "isinstance") (rIsiT K) := h ▸ call_isiT
theorem call_allK {X : Cx} (K : PySem.W.Frag) (hc : X.calm = true := by rfl) (h : X.K = K := by rfl) : CallR X (.builtin "all") (rAll K) := h ▸ cr_all hc
theorem call_anyK {X : Cx} (K : PySem.W.Frag) (hc : X.calm = true := by rfl) (h : X.K = K := by rfl) : CallR X (.builtin "any") (rAny K) := h ▸ cr_any hc
theorem call_reprK {X : Cx} (K : PySem.W.Frag) (gd : X.A.guards = some []) (hu : X.A.units + 64 < cLine) (h : X.K = K := by rfl) : CallR X (.builtin "repr") (rRepr K) := h ▸ call_rRepr gd hu
theorem sl_listK {X : Cx} (K : PySem.W.Frag) (h : X.K = K := by rfl) : SlR X (rSlL K) := h ▸ sl_list
/-! ### two ways to one int, joined -/
theorem r_joinI {σ σ' : L2.St} {H : Hp} {Q : VK} {ta tb : TE} {p : Prop} [Decidable p] (P : Int → Prop) (k : ∀ c : Int, P c → Q (.int c) H) (h1 : ∀ Q' : VK, (∀ c : Int, P c → Q' (.int c) H) → p → ta σ H Q') (h2 : ∀ Q' : VK, (∀ c : Int, P c → Q' (.int c) H) → ¬ p → tb σ' H Q') : if decide p = true then ta σ H Q else tb σ' H Q :=
  r_iteD (h1 Q k) (h2 Q k)
/-! ### several names at once; slices; whiles -/
section
variable {K : PySem.W.Frag} {σ : L2.St} {H : Hp} {Q : VK} {D : Ends}
theorem r_par {i j : Nat} {ta : TA} (h : ta σ H fun vs H1 => ∃ v w, vs = [v, w] ∧ D.nx ((σ.set i (some v)).set j (some w)) H1) : tPar i j ta D σ H := h
theorem r_pair {v w : V} {P : V → V → Prop} (h : P v w) : ∃ a b, [v, w] = [a, b] ∧ P a b := ⟨v, w, rfl, h⟩
theorem r_par3 {i j l : Nat} {ta : TA} (h : ta σ H fun vs H1 => ∃ u v w, vs = [u, v, w] ∧ D.nx (((σ.set i (some u)).set j (some v)).set l (some w)) H1) : tPar3 i j l ta D σ H := h
theorem r_trip {u v w : V} {P : V → V → V → Prop} (h : P u v w) : ∃ a b c, [u, v, w] = [a, b, c] ∧ P a b c := ⟨u, v, w, rfl, h⟩
theorem r_gtup {n : Nat} {t : TGs} {p : Addr} {xs : List V} {Q : L2.St → Hp → Prop} (hp : SqT K H p xs) (hn : xs.length = n) (h : t xs σ H Q) : gTup K n t (.ref p) σ H Q := ⟨p, xs, rfl, hp, hn, h⟩
theorem r_gcons {t : TG} {u : TGs} {v : V} {r : List V} {Q : L2.St → Hp → Prop} (h : t v σ H fun σ' H' => u r σ' H' Q) : gCons t u (v :: r) σ H Q := ⟨v, r, rfl, h⟩
theorem r_gnil {Q : L2.St → Hp → Prop} (h : Q σ H) : gNil [] σ H Q := ⟨rfl, h⟩
theorem r_slL {p : Addr} {xs : List V} {lo hi : Option Int} (hp : SqL K H p xs) (h : ∀ q, H q = none → Q (.ref q) (upd H q (.lst (cutV xs lo hi)))) : rSlL K (.ref p) lo hi H Q := ⟨p, xs, rfl, hp, h⟩
theorem r_iTup {tl : TE} {R : It → Hp → Prop} (h : tl σ H fun x H1 => ∃ a, x = .ref a ∧ (∃ xs, SqT K H1 a xs) ∧ R (Itt K a) H1) : iTup K tl σ H R := h
theorem r_tupE {a : Addr} {xs : List V} {P : Addr → Prop} (hp : SqT K H a xs) (h : P a) : ∃ b, V.ref a = .ref b ∧ (∃ xs, SqT K H b xs) ∧ P b := ⟨a, rfl, ⟨xs, hp⟩, h⟩
end
theorem walk_rangeN {n : Nat} : Walk (Itr 0 n) ((List.range n).map fun (i : Nat) => V.int (i : Int)).length (fun _ => True) (YAt ((List.range n).map fun (i : Nat) => V.int (i : Int))) := by
  have e : ((List.range n).map fun (i : Nat) => V.int (i : Int)).length = n := by simp
  rw [e]
  refine (walk_range (lo := 0) (n := n)).mono (fun _ h => h) ?_
  rintro i H x H' hi _ ⟨e1, e2⟩
  refine ⟨e1, ?_⟩
  rw [List.getElem?_map, List.getElem?_range hi, e2]
  simp
/-- a while by a number that falls; the body is read for any next N -/
theorem r_while {c : TT} {tb : TS} {D : Ends} {σ : L2.St} {H : Hp} (W : Nat → L2.St → Hp → Prop) (m0 : Nat) (h0 : W m0 σ H)
    (hs : ∀ m σ H, W m σ H → ∀ N : L2.St → Hp → Prop, (∀ m' σ' H', m' < m → W m' σ' H' → N σ' H') → c σ H fun b H1 => if b = true then tb { D with nx := N, ct := N, bk := D.nx } σ H1 else D.nx σ H1)
    (mono : ∀ σ H (Q Q' : Bool → Hp → Prop), (∀ b H1, Q b H1 → Q' b H1) → c σ H Q → c σ H Q') : tWhile c tb D σ H := by
  refine ⟨W, ⟨m0, h0⟩, fun m σ H w => ?_⟩
  refine mono σ H _ _ (fun b H1 q => ?_) (hs m σ H w (fun σ' H' => ∃ m', m' < m ∧ W m' σ' H') (fun m' σ' H' l w' => ⟨m', l, w'⟩))
  cases b with
  | true =>
    rw [if_pos rfl] at q ⊢
    exact ⟨_, fun σ' H' z => z, q⟩
  | false =>
    rw [if_neg Bool.false_ne_true] at q ⊢
    exact q
theorem pg_tupK {X : Cx} (K : PySem.W.Frag) {T : Expr} {n : Nat} {t : TGs} (h : PG X T (gTup X.K n t)) (hK : X.K = K := by rfl) : PG X T (gTup K n t) := hK ▸ h
def rLenY : List V → Hp → VK → Prop := fun xs H Q => ∃ y : Array UInt8, xs = [.byt y] ∧ y.size ≤ sizeLine ∧ Q (.int y.size) H
theorem call_rLenY {X : Cx} : CallR X (.builtin "len") rLenY := fun pins s σ H xs us Q I r h => by
  obtain ⟨y, rfl, hz, q⟩ := h
  exact call_len pins s σ H _ us Q I r ⟨.byt y, y.size, rfl, (show y.size ≤ sizeLine ∧ y.size = y.size from ⟨hz, rfl⟩), q⟩
theorem r_rLenY {H : Hp} {Q : VK} {y : Array UInt8} (hz : y.size ≤ sizeLine) (h : Q (.int y.size) H) : rLenY [.byt y] H Q := ⟨y, rfl, hz, h⟩
/-! ### defs with keyword-only parameters; attributes -/
theorem funD_ok0 {P : Program} {w : World} {K : PySem.W.Frag} {mg : Str → Option Value} {base : Heap} {x qual : Str} {params : Arguments} {body : List Stmt} {scope : Scope} {dvs : List V} {kws : List (Str × V)} {f : Addr} {fd : FuncData} {N ps : List Str} {k : Nat} {sp : Sp}
    (F : FunD K x qual params body scope dvs kws f fd) (S : FnScope N ps scope) (len : ∀ vs H Q E, sp vs H Q E → vs.length = ps.length)
    (told : ∀ (cdv : Value) (A : Around) (outer : List Env) (s : Shared) (H : Hp) (vs : List V) (Q : VK) (E : XK), Room k (A.deeper (envOfC qual scope s.heap.objs.size f cdv)) → sp vs H Q E →
      ∃ t, PSs (cxOf CX0 P w K mg base N qual scope f cdv A outer s H E).nox body t ∧ t { nx := fun _ H' => Q .non H', rt := Q } (start N vs) H) : FnOk P w K mg base CX0 (k + 1) f fd ps sp :=
  F.ok S len fun cdv A outer s H vs Q E hr h => by
    obtain ⟨t, d, q⟩ := told cdv A outer s H vs Q E hr h
    exact ⟨t, d.nox, q⟩
section
variable {K : PySem.W.Frag} {σ : L2.St} {H : Hp} {Q : VK} {D : Ends}
theorem r_sfld {ta tv : TE} {f : Str} (h : tv σ H fun y H1 => ta σ H1 fun x H2 => ∃ a C dx fs, x = .ref a ∧ H2 a = some (.ins C dx fs) ∧ Cls K C ∧ NoAttr K C f ∧ fs.length < 1000 ∧ D.nx σ (upd H2 a (.ins C dx (putF f y fs)))) : sFld K ta tv f D σ H := h
theorem r_sfldE {p C dx : Addr} {fs : List (Str × V)} {f : Str} {R : Addr → Addr → Addr → List (Str × V) → Prop} (hp : H p = some (.ins C dx fs)) (hc : Cls K C) (hn : NoAttr K C f) (hl : fs.length < 1000) (h : R p C dx fs) :
    ∃ a C dx fs, V.ref p = .ref a ∧ H a = some (.ins C dx fs) ∧ Cls K C ∧ NoAttr K C f ∧ fs.length < 1000 ∧ R a C dx fs := ⟨p, C, dx, fs, rfl, hp, hc, hn, hl, h⟩
theorem r_fld {te : TE} {f : Str} (h : te σ H fun x H1 => ∃ a C dx fs v, x = .ref a ∧ H1 a = some (.ins C dx fs) ∧ Cls K C ∧ NoAttr K C f ∧ fs.lookup f = some v ∧ Q v H1) : tFld K te f σ H Q := h
theorem r_fldE {p C dx : Addr} {fs : List (Str × V)} {f : Str} {v : V} {R : V → Prop} (hp : H p = some (.ins C dx fs)) (hc : Cls K C) (hn : NoAttr K C f) (hl : fs.lookup f = some v) (h : R v) :
    ∃ a C dx fs v, V.ref p = .ref a ∧ H a = some (.ins C dx fs) ∧ Cls K C ∧ NoAttr K C f ∧ fs.lookup f = some v ∧ R v := ⟨p, C, dx, fs, v, rfl, hp, hc, hn, hl, h⟩
end
/-! ### f-strings; repr of an own object -/
def tJoin (ts : List TE) : TE := fun σ H Q => tJs ts Str.empty σ H fun out H1 => Q (.str out) H1
theorem pe_joinN {X : Cx} {E : Expr} {ts : List TE} (h : PE X E (fun σ H Q => tJs ts Str.empty σ H fun out H1 => Q (.str out) H1)) : PE X E (tJoin ts) := h
section
variable {K : PySem.W.Frag} {σ : L2.St} {H : Hp} {Q : VK}
theorem r_join {ts : List TE} (h : tJs ts Str.empty σ H fun out H1 => Q (.str out) H1) : tJoin ts σ H Q := h
theorem r_jnil {acc : Str} {Q : Str → Hp → Prop} (h : Q acc H) : tJs [] acc σ H Q := h
theorem r_jcons {t : TE} {ts : List TE} {acc : Str} {Q : Str → Hp → Prop} (h : t σ H fun x H1 => ∃ y : Str, x = .str y ∧ (acc ++ y).length ≤ sizeLine ∧ tJs ts (acc ++ y) σ H1 Q) : tJs (t :: ts) acc σ H Q := h
theorem r_jE {y acc : Str} {P : Str → Prop} (hz : (acc ++ y).length ≤ sizeLine) (h : P (acc ++ y)) : ∃ u : Str, V.str y = .str u ∧ (acc ++ u).length ≤ sizeLine ∧ P (acc ++ u) := ⟨y, rfl, hz, h⟩
theorem r_fmtR {te : TE} (h : te σ H fun x H1 => (∃ y : Str, x = .str y ∧ (reprText y).length ≤ sizeLine ∧ Q (.str (reprText y)) H1) ∨ ∃ i : Int, x = .int i ∧ i.natAbs.log2 < 1920 ∧ Q (.str (toString i)) H1) : tFmtR te σ H Q := h
end
/-- repr(o), o of a class with a __repr__ of its own -/
def rReprO (C : Addr) (sp : Sp) : List V → Hp → VK → Prop := fun xs H Q => ∃ a dx fs, xs = [.ref a] ∧ H a = some (.ins C dx fs) ∧ ∀ E, sp [.ref a] H (fun v H' => ∃ z, v = .str z ∧ Q (.str z) H') E
theorem call_rReprO {X : Cx} {C f : Addr} {fd : FuncData} {k : Nat} {sp : Sp} (hs : PySem.W.findIn X.K (.ref C) "__repr__" = some (some (.ref f))) (hf : PySem.W.isFn X.K (.ref f) = true) (F : FnOk X.prog X.w X.K X.mg X.base CX0 k f fd ["self"] sp) (hb : Binds X.K fd ["self"] []) (hr : Room (k + 1) X.A) :
    CallR X (.builtin "repr") (rReprO C sp) := by
  intro pins s σ H xs us Q I r h
  obtain ⟨a, dx, fs, rfl, ha, q⟩ := h
  obtain ⟨u, rfl, rx⟩ := vals1 r
  have hu : u = Value.ref a := rx
  subst hu
  obtain ⟨mA, O, _⟩ := ins_get I.hok ha
  obtain ⟨od, J, _⟩ := O.look
  obtain ⟨m, fr⟩ := I.fr
  have room : Room k X.A.in1 := hr.in1
  refine PySem.W.repr_K (by have := room.un; omega) fr I.ok.mod.kin J hs hf ?_
  refine wpAny_call (codeAny_mono (F.run X.A.in1 X.stack s H ⟨[.ref a], []⟩ [.ref a] [.ref a] _ (fun _ _ _ => False) room I.env0.in1 (hb s [.ref a] I.kIn rfl) (.cons rfl .nil) (q _)) ?_)
  intro r s' hq
  cases r with
  | error e => exact False.elim hq
  | ok fl =>
    cases fl with
    | ret v =>
      obtain ⟨y, H', J', rel, z, rfl, q'⟩ := I.after hq
      obtain ⟨t, rfl⟩ := rel
      exact ⟨.str z, H', J', ⟨t, rfl⟩, q'⟩
    | next => exact False.elim hq
    | brk => exact False.elim hq
    | cont => exact False.elim hq
end Th
namespace Th
open PySem PySem.Spec PyProof.Rows L2
local macro_rules | `(tactic| walk_at "lk") => `(tactic| first
  | assumption
  | exact upd_same
  | (refine upd_old (by assumption) ?_; walk_at "lk")
  | (refine upd_diff (by assumption) ?_; walk_at "lk")
  | (refine upd_diff (Ne.symm (by assumption)) ?_; walk_at "lk"))
local macro_rules | `(tactic| walk_at "cnd") => `(tactic| first
  | omega
  | (refine ⟨by omega, by omega⟩)
  | (refine ⟨by omega, by omega, by omega⟩)
  | (refine .inl ⟨by omega, by omega⟩)
  | (refine .inr ⟨by omega, by omega⟩)
  | (exact (show CPow _ _ from ⟨by decide, by decide, by omega⟩))
  | decide +kernel
  | (unfold CMulW; decide +kernel)
  | (exact wide_div (b := 64) (by omega) (by omega) (by decide) (by decide)))
local macro_rules | `(tactic| walk_at "rd1") => `(tactic| first
  | (with_reducible refine r_seq ?_)
  | (with_reducible refine r_asg ?_)
  | (with_reducible refine r_ret ?_)
  | (with_reducible refine r_if ?_)
  | (with_reducible refine r_gname ?_)
  | ((with_reducible refine' r_var ?hv ?_); (case hv => exact rfl))
  | (with_reducible refine r_c ?_)
  | (with_reducible refine r_op ?_)
  | (with_reducible refine r_I0 ?_)
  | ((with_reducible refine r_I ?hc ?_); (case hc => walk_at "cnd"))
  | (with_reducible refine r_test ?_)
  | (with_reducible refine r_tB ?_)
  | (with_reducible refine r_bl ?_)
  | (with_reducible refine r_not ?_)
  | (with_reducible refine r_and ?_)
  | (with_reducible refine r_or ?_)
  | (with_reducible refine r_ifE ?_)
  | (with_reducible refine r_notV ?_)
  | (with_reducible refine r_andV ?_)
  | (with_reducible refine r_orV ?_)
  | (with_reducible refine r_chain ?_)
  | (with_reducible refine r_cb ?_)
  | (with_reducible refine r_call ?_)
  | (with_reducible refine r_callN ?_)
  | (with_reducible refine r_nil ?_)
  | (with_reducible refine r_cons ?_)
  | ((with_reducible refine r_lst ?_))
  | ((with_reducible refine r_tup ?_))
  | ((with_reducible refine r_new ?_ ?_); (exact Nat.le_of_ble_eq_true rfl); (intro p hp))
  | (with_reducible refine r_rInt1 ?_)
  | (with_reducible refine r_rIntB ?_)
  | (with_reducible refine r_rAbs ?_)
  | (with_reducible refine r_rMin2 ?_)
  | (with_reducible refine r_rMax2 ?_)
  | ((with_reducible refine r_rLenZ ?hz ?_); (case hz => first | assumption | exact Nat.le_of_ble_eq_true rfl | (refine Nat.le_trans ?_ (by decide : 100000 ≤ sizeLine); omega)))
  | ((with_reducible refine r_addZ ?hz ?_); (case hz => (refine Nat.le_trans ?_ (by decide : 100000 ≤ sizeLine); first | omega | (simp only [Str.length] at *; simp; omega))))
  | ((with_reducible refine r_mulZ ?hz ?h0 ?h1 ?_); (case hz => first | omega | exact Nat.le_of_ble_eq_true rfl); (case h0 => omega); (case h1 => omega))
  | ((with_reducible refine' r_rLenQ ?h1 ?_); (case h1 => first | (exact .inl (by assumption)) | (exact .inr (by assumption)) | (exact .inl (SqL.of (by walk_at "lk"))) | (exact .inr (SqT.of (by walk_at "lk")))))
  | ((with_reducible refine r_eq ?hs ?_); (case hs => exact rfl))
  | ((with_reducible refine r_ne ?hs ?_); (case hs => exact rfl))
  | (with_reducible refine r_inC ?_)
  | ((with_reducible refine' r_cat ?h1 ?h2 ?h3 ?_); (case h1 => walk_at "lk"); (case h2 => walk_at "lk"); (case h3 => exact Nat.le_of_ble_eq_true rfl); (intro p hp))
  | ((with_reducible refine' r_rep ?h1 ?h2 ?h3 ?h4 ?_); (case h1 => walk_at "lk"); (case h2 => omega); (case h3 => omega); (case h4 => exact Nat.le_of_ble_eq_true rfl); (intro p hp))
  | ((with_reducible refine' r_append ?h1 ?h2 ?_); (case h1 => walk_at "lk"); (case h2 => first | exact (show _ + 1 ≤ sizeLine from Nat.le_of_ble_eq_true rfl) | exact Nat.lt_of_le_of_lt (by omega : _ ≤ 100000) (by decide)))
  | (with_reducible refine r_bm ?_)
  | ((with_reducible refine' r_tyL ?h1 ?_); (case h1 => walk_at "lk"))
  | ((with_reducible refine' r_ixL ?h1 ?h2 ?_); (case h1 => first | assumption | exact SqL.of (by walk_at "lk")); (case h2 => exact rfl))
  | ((with_reducible refine' r_ixT ?h1 ?h2 ?_); (case h1 => first | assumption | exact SqT.of (by walk_at "lk")); (case h2 => exact rfl))
  | (with_reducible refine r_gsub ?_)
  | ((with_reducible refine' r_setL ?h1 ?h2 ?_); (case h1 => walk_at "lk"); (case h2 => exact rfl))
  | (with_reducible refine r_un ?_)
  | (with_reducible refine r_neg ?_)
  | (with_reducible refine r_iteT ?_)
  | (with_reducible refine r_iteNT ?_)
  | (with_reducible refine r_iteNF ?_)
  | (with_reducible refine r_iteF ?_)
  | (with_reducible refine r_next ?_)
  | (with_reducible refine r_drop ?_)
  | (with_reducible refine r_cont ?_)
  | (with_reducible refine r_brk ?_))
local macro_rules | `(tactic| walk_at "ty") => `(tactic| first
  | assumption
  | exact .base (.int _)
  | exact .base (.str _)
  | exact .base (.bl _)
  | exact .base .non
  | exact .byt _
  | exact .base (.lst (by walk_at "lk"))
  | exact .base (.tup (by walk_at "lk")))
local macro_rules | `(tactic| walk_at "rd2") => `(tactic| first
  | walk_at "rd1"
  | ((with_reducible refine' r_isi true ?ht ?hk ?_); (case ht => walk_at "ty"); (case hk => first | assumption | decide +kernel))
  | ((with_reducible refine' r_isi false ?ht ?hk ?_); (case ht => walk_at "ty"); (case hk => first | assumption | decide +kernel))
  | ((with_reducible refine' r_isiT2 true true ?hT ?ht ?hk ?hk2 ?_); (case hT => walk_at "lk"); (case ht => walk_at "ty"); (case hk => decide +kernel); (case hk2 => decide +kernel))
  | ((with_reducible refine' r_isiT2 true false ?hT ?ht ?hk ?hk2 ?_); (case hT => walk_at "lk"); (case ht => walk_at "ty"); (case hk => decide +kernel); (case hk2 => decide +kernel))
  | ((with_reducible refine' r_isiT2 false true ?hT ?ht ?hk ?hk2 ?_); (case hT => walk_at "lk"); (case ht => walk_at "ty"); (case hk => decide +kernel); (case hk2 => decide +kernel))
  | ((with_reducible refine' r_isiT2 false false ?hT ?ht ?hk ?hk2 ?_); (case hT => walk_at "lk"); (case ht => walk_at "ty"); (case hk => decide +kernel); (case hk2 => decide +kernel))
  | (with_reducible refine r_iteNT ?_)
  | ((show (if (!true) = true then _ else _)); refine r_iteNT ?_)
  | (with_reducible refine r_r1 ?_)
  | (with_reducible refine r_maks ?_)
  | (with_reducible refine r_sfld ?_)
  | ((with_reducible refine' r_sfldE ?h1 ?h2 ?h3 ?h4 ?_); (case h1 => walk_at "lk"); (case h2 => assumption); (case h3 => assumption); (case h4 => exact (show _ + 1 ≤ 1000 from Nat.le_of_ble_eq_true rfl)))
  | (with_reducible refine r_fld ?_)
  | (with_reducible refine r_join ?_)
  | (with_reducible refine r_jcons ?_)
  | (with_reducible refine r_jnil ?_)
  | ((with_reducible refine r_rLenY ?hz ?_); (case hz => first | assumption | (refine Nat.le_trans ?_ (by decide : 100000 ≤ sizeLine); omega)))
  | (with_reducible refine r_par ?_)
  | (with_reducible refine r_pair ?_)
  | (with_reducible refine r_par3 ?_)
  | (with_reducible refine r_trip ?_)
  | ((with_reducible refine' r_gtup ?h1 ?h2 ?_); (case h1 => first | assumption | exact SqT.of (by walk_at "lk")); (case h2 => exact rfl))
  | (with_reducible refine r_gcons ?_)
  | (with_reducible refine r_gnil ?_)
  | ((with_reducible refine' r_slL ?h1 ?_); (case h1 => first | assumption | exact SqL.of (by walk_at "lk")); (intro p hp))
  | (with_reducible refine r_iTup ?_)
  | ((with_reducible refine' r_tupE ?h1 ?_); (case h1 => first | assumption | exact SqT.of (by walk_at "lk")))
  | (with_reducible refine r_m1 ?_)
  | (with_reducible refine r_isZ ?_)
  | (with_reducible refine r_sl ?_)
  | (with_reducible refine r_noPart ?_)
  | (with_reducible refine r_part ?_)
  | (with_reducible refine r_partE ?_)
  | ((with_reducible refine r_slS ?hz ?_); (case hz => first | assumption | (refine Nat.le_trans ?_ (by decide : 100000 ≤ sizeLine); omega)))
  | ((with_reducible refine' r_inT ?h1 ?h2 ?h3 ?_); (case h1 => first | assumption | (exact SqT.of (by walk_at "lk"))); (case h2 => exact rfl); (case h3 => exact rfl))
  | ((with_reducible refine' r_inL ?h1 ?h2 ?h3 ?_); (case h1 => first | assumption | (exact SqL.of (by walk_at "lk"))); (case h2 => exact rfl); (case h3 => exact rfl))
  | (with_reducible refine r_lc ?_)
  | (with_reducible refine r_for ?_)
  | (with_reducible refine r_iStr ?_)
  | (with_reducible refine r_strE ?_)
  | (with_reducible refine r_iList ?_)
  | ((with_reducible refine' r_listE ?h1 ?_); (case h1 => first | assumption | exact SqL.of (by walk_at "lk")))
  | (with_reducible refine r_iRng1 ?_)
  | ((with_reducible refine' r_rngE ?h0 ?h1 ?_); (case h0 => first | omega | (split <;> omega)); (case h1 => first | omega | (split <;> omega))))
local macro_rules | `(tactic| walk_at "rd") => `(tactic| (repeat walk_at "rd2"))
local macro_rules | `(tactic| walk_at "st") => `(tactic| (repeat (first
  | (with_reducible refine r_gname ?_)
  | (with_reducible refine r_next ?_)
  | (with_reducible refine r_seq ?_)
  | (with_reducible refine r_asg ?_)
  | (with_reducible refine r_ret ?_)
  | (with_reducible refine r_for ?_)
  | (with_reducible refine r_iRng1 ?_)
  | (with_reducible refine r_iList ?_)
  | (with_reducible refine r_cons ?_)
  | (with_reducible refine r_par ?_)
  | (with_reducible refine r_par3 ?_))))
def topS (i : Nat) : Stmt := PySem.Challenge.pw_tarhouse_k03_names_and_paths.main.body.getD i (.Pass ⟨0, 0, 0, 0⟩)
abbrev s_is_integer : Stmt := topS 1
abbrev N_is_integer : List Str := ["thing"]
theorem sc_is_integer : FnScope N_is_integer ["thing"] (defScope s_is_integer) := ⟨rfl, rfl, rfl, by decide +kernel, rfl, by decide +kernel, by decide +kernel⟩
abbrev s_is_integer_within : Stmt := topS 2
abbrev N_is_integer_within : List Str := ["thing", "least", "most"]
theorem sc_is_integer_within : FnScope N_is_integer_within ["thing", "least", "most"] (defScope s_is_integer_within) := ⟨rfl, rfl, rfl, by decide +kernel, rfl, by decide +kernel, by decide +kernel⟩
abbrev s_is_name : Stmt := topS 11
abbrev N_is_name : List Str := ["thing", "character"]
theorem sc_is_name : FnScope N_is_name ["thing"] (defScope s_is_name) := ⟨rfl, rfl, rfl, by decide +kernel, rfl, by decide +kernel, by decide +kernel⟩
abbrev s_is_path : Stmt := topS 12
abbrev N_is_path : List Str := ["thing", "part"]
theorem sc_is_path : FnScope N_is_path ["thing"] (defScope s_is_path) := ⟨rfl, rfl, rfl, by decide +kernel, rfl, by decide +kernel, by decide +kernel⟩
abbrev s_blob : Stmt := topS 14
abbrev N_blob : List Str := ["numbers"]
theorem sc_blob : FnScope N_blob ["numbers"] (defScope s_blob) := ⟨rfl, rfl, rfl, by decide +kernel, rfl, by decide +kernel, by decide +kernel⟩
abbrev s_is_row_of_bytes : Stmt := topS 15
abbrev N_is_row_of_bytes : List Str := ["thing", "number"]
theorem sc_is_row_of_bytes : FnScope N_is_row_of_bytes ["thing"] (defScope s_is_row_of_bytes) := ⟨rfl, rfl, rfl, by decide +kernel, rfl, by decide +kernel, by decide +kernel⟩
abbrev s__law_source : Stmt := topS 17
abbrev N__law_source : List Str := ["_law_script", "_law_at", "_law_cell", "_law_large", "_law_mix", "_law_k"]
theorem sc__law_source : FnScope N__law_source ["_law_script", "_law_at"] (defScope s__law_source) := ⟨rfl, rfl, rfl, by decide +kernel, rfl, by decide +kernel, by decide +kernel⟩
abbrev s__law_draw : Stmt := topS 18
abbrev N__law_draw : List Str := ["_law_source_here", "_law_many", "_law_digit"]
theorem sc__law_draw : FnScope N__law_draw ["_law_source_here", "_law_many"] (defScope s__law_draw) := ⟨rfl, rfl, rfl, by decide +kernel, rfl, by decide +kernel, by decide +kernel⟩
abbrev s__law_random_name : Stmt := topS 19
abbrev N__law_random_name : List Str := ["_law_source_here", "_law_many", "_law_found", "_law_k"]
theorem sc__law_random_name : FnScope N__law_random_name ["_law_source_here", "_law_many"] (defScope s__law_random_name) := ⟨rfl, rfl, rfl, by decide +kernel, rfl, by decide +kernel, by decide +kernel⟩
abbrev s__law_any_name : Stmt := topS 20
abbrev N__law_any_name : List Str := ["_law_source_here", "_law_way", "_law_size", "_law_base"]
theorem sc__law_any_name : FnScope N__law_any_name ["_law_source_here"] (defScope s__law_any_name) := ⟨rfl, rfl, rfl, by decide +kernel, rfl, by decide +kernel, by decide +kernel⟩
abbrev s__law_is_name : Stmt := topS 21
abbrev N__law_is_name : List Str := ["_law_given", "_law_sign"]
theorem sc__law_is_name : FnScope N__law_is_name ["_law_given"] (defScope s__law_is_name) := ⟨rfl, rfl, rfl, by decide +kernel, rfl, by decide +kernel, by decide +kernel⟩
abbrev s__law_is_path : Stmt := topS 22
abbrev N__law_is_path : List Str := ["_law_given", "_law_part", "_law_sign"]
theorem sc__law_is_path : FnScope N__law_is_path ["_law_given"] (defScope s__law_is_path) := ⟨rfl, rfl, rfl, by decide +kernel, rfl, by decide +kernel, by decide +kernel⟩
abbrev s__law_bent : Stmt := topS 23
abbrev N__law_bent : List Str := ["_law_source_here", "_law_text", "_law_at", "_law_sign", "_law_some"]
theorem sc__law_bent : FnScope N__law_bent ["_law_source_here", "_law_text"] (defScope s__law_bent) := ⟨rfl, rfl, rfl, by decide +kernel, rfl, by decide +kernel, by decide +kernel⟩
abbrev s_law : Stmt := topS 24
abbrev N_law : List Str := ["_law_script", "_law_k", "_law_source_here", "_law_turn", "_law_text", "_law_some", "_law_odd", "_law_given", "_law_told"]
theorem sc_law : FnScope N_law ["_law_script"] (defScope s_law) := ⟨rfl, rfl, rfl, by decide +kernel, rfl, by decide +kernel, by decide +kernel⟩
/-- the state of the drawing: three ints -/
def Src (H : Hp) (a : Addr) : Prop := ∃ l m c : Int, H a = some (.lst [.int l, .int m, .int c]) ∧ 0 ≤ l ∧ 0 ≤ m ∧ m < 2147483647
def spDraw : Sp := fun vs H Q _ => ∃ (a : Addr) (n : Int), vs = [.ref a, .int n] ∧ Src H a ∧ 0 < n ∧ n < 1000000 ∧ ∀ (d : Int) H', 0 ≤ d → d < n → Src H' a → But a H H' → Q (.int d) H'
theorem sp_draw {a : Addr} {n : Int} {H : Hp} {Q : VK} {E : XK} (h : Src H a) (h0 : 0 < n) (h1 : n < 1000000) (k : ∀ (d : Int) H', 0 ≤ d → d < n → Src H' a → But a H H' → Q (.int d) H') : spDraw ([.ref a, .int n] ++ []) H Q E := ⟨a, n, rfl, h, h0, h1, k⟩
section
variable {P : Program} {w : World} {K : PySem.W.Frag} {mg : Str → Option Value} {base : Heap}
theorem ok_draw {f : Addr} {fd : FuncData} {k : Nat} (F : Fun K "_law_draw" "_law_draw" s__law_draw f fd) (mi : mg "int" = none) : FnOk P w K mg base CX0 (k + 2) f fd ["_law_source_here", "_law_many"] spDraw := by
  refine F.ok sc__law_draw (fun vs H Q E h => ?_) (fun cdv A outer s H vs Q E hr h => ?_)
  · obtain ⟨a, n, rfl, _⟩ := h
    rfl
  · obtain ⟨a, n, rfl, ⟨l, m, c, ha, hl0, hm0, hm1⟩, hn0, hn1, q⟩ := h
    have hu := hu_of hr
    have nd := sc__law_draw.nd
    refine ⟨_, (pss_cons (ps_if (pt_cmpR op_gt (pe_ix (ix_listK K) (pv 0) pe_int (fun _ _ => rfl)) pe_int (nomark _))
        (pss_cons (ps_set (i := 2) nd rfl (Or.inl rfl) (pe_op op_mod (pe_callTy call_rInt1 (by rfl) (by assumption) (by decide +kernel) (pa_cons (pe_ix (ix_listK K) (pv 0) pe_int (fun _ _ => rfl)) pa_nil)) (pv 1)))
      (pss_cons (ps_asg (pe_op op_fdivW (pe_ix (ix_listK K) (pv 0) pe_int (fun _ _ => rfl)) (pv 1)) (pg_sub (pv 0) pe_int set_list))
      (pss_one (ps_ret (pv 2)))))
        pss_nil)
      (pss_cons (ps_asg (pe_op op_add (pe_ix (ix_listK K) (pv 0) pe_int (fun _ _ => rfl)) pe_int) (pg_sub (pv 0) pe_int set_list))
      (pss_cons (ps_asg (pe_op op_mod (pe_callTy call_rInt1 (by rfl) (by assumption) (by decide +kernel) (pa_cons (pe_op op_add (pe_op op_add (pe_op op_pow (pe_ix (ix_listK K) (pv 0) pe_int (fun _ _ => rfl)) pe_int) (pe_op op_mul pe_int (pe_ix (ix_listK K) (pv 0) pe_int (fun _ _ => rfl)))) pe_int) pa_nil)) pe_int) (pg_sub (pv 0) pe_int set_list))
      (pss_one (ps_ret (pe_op op_mod (pe_callTy call_rInt1 (by rfl) (by assumption) (by decide +kernel) (pa_cons (pe_op op_fdivW (pe_op op_mod (pe_callTy call_rInt1 (by rfl) (by assumption) (by decide +kernel) (pa_cons (pe_op op_mul (pe_ix (ix_listK K) (pv 0) pe_int (fun _ _ => rfl)) pe_int) pa_nil)) pe_int) pe_int) pa_nil)) (pv 1))))))), ?_⟩
    walk_at "rd"
    refine r_iteD (fun h0 => ?_) (fun h0 => ?_)
    · walk_at "rd"
      refine q _ _ (Int.emod_nonneg _ (by omega)) (Int.emod_lt_of_pos _ hn0) ⟨l / n, m, c, upd_same, Int.ediv_nonneg hl0 (by omega), hm0, hm1⟩ (fun b o nb e => by rw [upd_ne nb]; exact e)
    · walk_at "rd"
      refine q _ _ (Int.emod_nonneg _ (by omega)) (Int.emod_lt_of_pos _ hn0) ⟨l, _, c + 1, upd_same, hl0, Int.emod_nonneg _ (by decide), Int.emod_lt_of_pos _ (by decide)⟩ (fun b o nb e => by rw [upd_ne nb, upd_ne nb]; exact e)
/-! ### the program's defs -/
def spIsI : Sp := fun vs H Q _ => ∃ i : Int, vs = [.int i] ∧ Q (.bl true) H
theorem sp_isI {i : Int} {H : Hp} {Q : VK} {E : XK} (k : Q (.bl true) H) : spIsI ([.int i] ++ []) H Q E := ⟨i, rfl, k⟩
theorem ok_isI {f : Addr} {fd : FuncData} {k : Nat} (F : Fun K "is_integer" "is_integer" s_is_integer f fd) (m1 : mg "isinstance" = none) (m2 : mg "bool" = none) (m3 : mg "int" = none) : FnOk P w K mg base CX0 (k + 1) f fd ["thing"] spIsI := by
  refine F.ok sc_is_integer (fun vs H Q E h => ?_) (fun cdv A outer s H vs Q E hr h => ?_)
  · obtain ⟨i, rfl, _⟩ := h
    rfl
  · obtain ⟨i, rfl, q⟩ := h
    have hu := hu_of hr
    have nd := sc_is_integer.nd
    refine ⟨_, (pss_one (ps_ret (pe_and (pe_callB (call_isiK1 K) (by rfl) (by assumption) (by decide +kernel) (pa_cons (pv 0) (pa_cons (pe_bltn (v := .ty "int") (by rfl) (by assumption) (by decide +kernel) rfl) pa_nil))) (pe_one (pe_not (pe_callB (call_isiK1 K) (by rfl) (by assumption) (by decide +kernel) (pa_cons (pv 0) (pa_cons (pe_bltn (v := .ty "bool") (by rfl) (by assumption) (by decide +kernel) rfl) pa_nil)))))))), ?_⟩
    walk_at "rd"
    exact q
def spWithin : Sp := fun vs H Q _ => ∃ (i lo hi : Int), vs = [.int i, .int lo, .int hi] ∧ Q (.bl (decide (lo ≤ i) && decide (i ≤ hi))) H
theorem ok_within {f : Addr} {fd : FuncData} {k : Nat} (F : Fun K "is_integer_within" "is_integer_within" s_is_integer_within f fd) (c_isI : CalT P w K mg base 1 "is_integer" spIsI) : FnOk P w K mg base CX0 (k + 2) f fd ["thing", "least", "most"] spWithin := by
  refine F.ok sc_is_integer_within (fun vs H Q E h => ?_) (fun cdv A outer s H vs Q E hr h => ?_)
  · obtain ⟨i, lo, hi, rfl, _⟩ := h
    rfl
  · obtain ⟨i, lo, hi, rfl, q⟩ := h
    have hu := hu_of hr
    have nd := sc_is_integer_within.nd
    refine ⟨_, (pss_one (ps_ret (pe_and (pe_cc c_isI hr (by omega) (by rfl) (pa_cons (pv 0) pa_nil)) (pe_one (pe_chain op_le op_le (pv 1) (pv 0) (pv 2)))))), ?_⟩
    walk_at "rd"
    refine sp_isI ?_
    walk_at "rd"
    refine r_iteD (fun h1 => ?_) (fun h1 => ?_)
    · walk_at "rd"
      rw [decide_eq_true h1, Bool.true_and] at q
      exact q
    · walk_at "rd"
      rw [decide_eq_false h1, Bool.false_and] at q
      exact q
theorem sp_within {i lo hi : Int} {H : Hp} {Q : VK} {E : XK} (k : Q (.bl (decide (lo ≤ i) && decide (i ≤ hi))) H) : spWithin ([.int i, .int lo, .int hi] ++ []) H Q E := ⟨i, lo, hi, rfl, k⟩
end
end Th
namespace Th
open PySem PySem.Spec PyProof.Rows L2
local macro_rules | `(tactic| walk_at "lk") => `(tactic| first
  | assumption
  | exact upd_same
  | (refine upd_old (by assumption) ?_; walk_at "lk")
  | (refine upd_diff (by assumption) ?_; walk_at "lk")
  | (refine upd_diff (Ne.symm (by assumption)) ?_; walk_at "lk"))
local macro_rules | `(tactic| walk_at "cnd") => `(tactic| first
  | omega
  | (refine ⟨by omega, by omega⟩)
  | (refine ⟨by omega, by omega, by omega⟩)
  | (refine .inl ⟨by omega, by omega⟩)
  | (refine .inr ⟨by omega, by omega⟩)
  | (exact (show CPow _ _ from ⟨by decide, by decide, by omega⟩))
  | decide +kernel
  | (unfold CMulW; decide +kernel)
  | (exact wide_div (b := 64) (by omega) (by omega) (by decide) (by decide)))
local macro_rules | `(tactic| walk_at "rd1") => `(tactic| first
  | (with_reducible refine r_seq ?_)
  | (with_reducible refine r_asg ?_)
  | (with_reducible refine r_ret ?_)
  | (with_reducible refine r_if ?_)
  | (with_reducible refine r_gname ?_)
  | ((with_reducible refine' r_var ?hv ?_); (case hv => exact rfl))
  | (with_reducible refine r_c ?_)
  | (with_reducible refine r_op ?_)
  | (with_reducible refine r_I0 ?_)
  | ((with_reducible refine r_I ?hc ?_); (case hc => walk_at "cnd"))
  | (with_reducible refine r_test ?_)
  | (with_reducible refine r_tB ?_)
  | (with_reducible refine r_bl ?_)
  | (with_reducible refine r_not ?_)
  | (with_reducible refine r_and ?_)
  | (with_reducible refine r_or ?_)
  | (with_reducible refine r_ifE ?_)
  | (with_reducible refine r_notV ?_)
  | (with_reducible refine r_andV ?_)
  | (with_reducible refine r_orV ?_)
  | (with_reducible refine r_chain ?_)
  | (with_reducible refine r_cb ?_)
  | (with_reducible refine r_call ?_)
  | (with_reducible refine r_callN ?_)
  | (with_reducible refine r_nil ?_)
  | (with_reducible refine r_cons ?_)
  | ((with_reducible refine r_lst ?_))
  | ((with_reducible refine r_tup ?_))
  | ((with_reducible refine r_new ?_ ?_); (exact Nat.le_of_ble_eq_true rfl); (intro p hp))
  | (with_reducible refine r_rInt1 ?_)
  | (with_reducible refine r_rIntB ?_)
  | (with_reducible refine r_rAbs ?_)
  | (with_reducible refine r_rMin2 ?_)
  | (with_reducible refine r_rMax2 ?_)
  | ((with_reducible refine r_rLenZ ?hz ?_); (case hz => first | assumption | exact Nat.le_of_ble_eq_true rfl | (refine Nat.le_trans ?_ (by decide : 100000 ≤ sizeLine); omega)))
  | ((with_reducible refine r_addZ ?hz ?_); (case hz => (refine Nat.le_trans ?_ (by decide : 100000 ≤ sizeLine); first | omega | (simp only [Str.length] at *; simp; omega))))
  | ((with_reducible refine r_mulZ ?hz ?h0 ?h1 ?_); (case hz => first | omega | exact Nat.le_of_ble_eq_true rfl); (case h0 => omega); (case h1 => omega))
  | ((with_reducible refine' r_rLenQ ?h1 ?_); (case h1 => first | (exact .inl (by assumption)) | (exact .inr (by assumption)) | (exact .inl (SqL.of (by walk_at "lk"))) | (exact .inr (SqT.of (by walk_at "lk")))))
  | ((with_reducible refine r_eq ?hs ?_); (case hs => exact rfl))
  | ((with_reducible refine r_ne ?hs ?_); (case hs => exact rfl))
  | (with_reducible refine r_inC ?_)
  | ((with_reducible refine' r_cat ?h1 ?h2 ?h3 ?_); (case h1 => walk_at "lk"); (case h2 => walk_at "lk"); (case h3 => exact Nat.le_of_ble_eq_true rfl); (intro p hp))
  | ((with_reducible refine' r_rep ?h1 ?h2 ?h3 ?h4 ?_); (case h1 => walk_at "lk"); (case h2 => omega); (case h3 => omega); (case h4 => exact Nat.le_of_ble_eq_true rfl); (intro p hp))
  | ((with_reducible refine' r_append ?h1 ?h2 ?_); (case h1 => walk_at "lk"); (case h2 => first | exact (show _ + 1 ≤ sizeLine from Nat.le_of_ble_eq_true rfl) | exact Nat.lt_of_le_of_lt (by omega : _ ≤ 100000) (by decide)))
  | (with_reducible refine r_bm ?_)
  | ((with_reducible refine' r_tyL ?h1 ?_); (case h1 => walk_at "lk"))
  | ((with_reducible refine' r_ixL ?h1 ?h2 ?_); (case h1 => first | assumption | exact SqL.of (by walk_at "lk")); (case h2 => exact rfl))
  | ((with_reducible refine' r_ixT ?h1 ?h2 ?_); (case h1 => first | assumption | exact SqT.of (by walk_at "lk")); (case h2 => exact rfl))
  | (with_reducible refine r_gsub ?_)
  | ((with_reducible refine' r_setL ?h1 ?h2 ?_); (case h1 => walk_at "lk"); (case h2 => exact rfl))
  | (with_reducible refine r_un ?_)
  | (with_reducible refine r_neg ?_)
  | (with_reducible refine r_iteT ?_)
  | (with_reducible refine r_iteNT ?_)
  | (with_reducible refine r_iteNF ?_)
  | (with_reducible refine r_iteF ?_)
  | (with_reducible refine r_next ?_)
  | (with_reducible refine r_drop ?_)
  | (with_reducible refine r_cont ?_)
  | (with_reducible refine r_brk ?_))
local macro_rules | `(tactic| walk_at "ty") => `(tactic| first
  | assumption
  | exact .base (.int _)
  | exact .base (.str _)
  | exact .base (.bl _)
  | exact .base .non
  | exact .byt _
  | exact .base (.lst (by walk_at "lk"))
  | exact .base (.tup (by walk_at "lk")))
local macro_rules | `(tactic| walk_at "rd2") => `(tactic| first
  | walk_at "rd1"
  | ((with_reducible refine' r_isi true ?ht ?hk ?_); (case ht => walk_at "ty"); (case hk => first | assumption | decide +kernel))
  | ((with_reducible refine' r_isi false ?ht ?hk ?_); (case ht => walk_at "ty"); (case hk => first | assumption | decide +kernel))
  | ((with_reducible refine' r_isiT2 true true ?hT ?ht ?hk ?hk2 ?_); (case hT => walk_at "lk"); (case ht => walk_at "ty"); (case hk => decide +kernel); (case hk2 => decide +kernel))
  | ((with_reducible refine' r_isiT2 true false ?hT ?ht ?hk ?hk2 ?_); (case hT => walk_at "lk"); (case ht => walk_at "ty"); (case hk => decide +kernel); (case hk2 => decide +kernel))
  | ((with_reducible refine' r_isiT2 false true ?hT ?ht ?hk ?hk2 ?_); (case hT => walk_at "lk"); (case ht => walk_at "ty"); (case hk => decide +kernel); (case hk2 => decide +kernel))
  | ((with_reducible refine' r_isiT2 false false ?hT ?ht ?hk ?hk2 ?_); (case hT => walk_at "lk"); (case ht => walk_at "ty"); (case hk => decide +kernel); (case hk2 => decide +kernel))
  | (with_reducible refine r_iteNT ?_)
  | ((show (if (!true) = true then _ else _)); refine r_iteNT ?_)
  | (with_reducible refine r_r1 ?_)
  | (with_reducible refine r_maks ?_)
  | (with_reducible refine r_sfld ?_)
  | ((with_reducible refine' r_sfldE ?h1 ?h2 ?h3 ?h4 ?_); (case h1 => walk_at "lk"); (case h2 => assumption); (case h3 => assumption); (case h4 => exact (show _ + 1 ≤ 1000 from Nat.le_of_ble_eq_true rfl)))
  | (with_reducible refine r_fld ?_)
  | (with_reducible refine r_join ?_)
  | (with_reducible refine r_jcons ?_)
  | (with_reducible refine r_jnil ?_)
  | ((with_reducible refine r_rLenY ?hz ?_); (case hz => first | assumption | (refine Nat.le_trans ?_ (by decide : 100000 ≤ sizeLine); omega)))
  | (with_reducible refine r_par ?_)
  | (with_reducible refine r_pair ?_)
  | (with_reducible refine r_par3 ?_)
  | (with_reducible refine r_trip ?_)
  | ((with_reducible refine' r_gtup ?h1 ?h2 ?_); (case h1 => first | assumption | exact SqT.of (by walk_at "lk")); (case h2 => exact rfl))
  | (with_reducible refine r_gcons ?_)
  | (with_reducible refine r_gnil ?_)
  | ((with_reducible refine' r_slL ?h1 ?_); (case h1 => first | assumption | exact SqL.of (by walk_at "lk")); (intro p hp))
  | (with_reducible refine r_iTup ?_)
  | ((with_reducible refine' r_tupE ?h1 ?_); (case h1 => first | assumption | exact SqT.of (by walk_at "lk")))
  | (with_reducible refine r_m1 ?_)
  | (with_reducible refine r_isZ ?_)
  | (with_reducible refine r_sl ?_)
  | (with_reducible refine r_noPart ?_)
  | (with_reducible refine r_part ?_)
  | (with_reducible refine r_partE ?_)
  | ((with_reducible refine r_slS ?hz ?_); (case hz => first | assumption | (refine Nat.le_trans ?_ (by decide : 100000 ≤ sizeLine); omega)))
  | ((with_reducible refine' r_inT ?h1 ?h2 ?h3 ?_); (case h1 => first | assumption | (exact SqT.of (by walk_at "lk"))); (case h2 => exact rfl); (case h3 => exact rfl))
  | ((with_reducible refine' r_inL ?h1 ?h2 ?h3 ?_); (case h1 => first | assumption | (exact SqL.of (by walk_at "lk"))); (case h2 => exact rfl); (case h3 => exact rfl))
  | (with_reducible refine r_lc ?_)
  | (with_reducible refine r_for ?_)
  | (with_reducible refine r_iStr ?_)
  | (with_reducible refine r_strE ?_)
  | (with_reducible refine r_iList ?_)
  | ((with_reducible refine' r_listE ?h1 ?_); (case h1 => first | assumption | exact SqL.of (by walk_at "lk")))
  | (with_reducible refine r_iRng1 ?_)
  | ((with_reducible refine' r_rngE ?h0 ?h1 ?_); (case h0 => first | omega | (split <;> omega)); (case h1 => first | omega | (split <;> omega))))
local macro_rules | `(tactic| walk_at "rd") => `(tactic| (repeat walk_at "rd2"))
local macro_rules | `(tactic| walk_at "st") => `(tactic| (repeat (first
  | (with_reducible refine r_gname ?_)
  | (with_reducible refine r_next ?_)
  | (with_reducible refine r_seq ?_)
  | (with_reducible refine r_asg ?_)
  | (with_reducible refine r_ret ?_)
  | (with_reducible refine r_for ?_)
  | (with_reducible refine r_iRng1 ?_)
  | (with_reducible refine r_iList ?_)
  | (with_reducible refine r_cons ?_)
  | (with_reducible refine r_par ?_)
  | (with_reducible refine r_par3 ?_))))
section
variable {P : Program} {w : World} {K : PySem.W.Frag} {mg : Str → Option Value} {base : Heap}
def inByte (i : Int) : Bool := decide (0 ≤ i) && decide (i ≤ 255)
def spRow : Sp := fun vs H Q _ => ∃ (a : Addr) (ns : List Int), vs = [.ref a] ∧ H a = some (.lst (ns.map V.int)) ∧ ns.length ≤ 70000 ∧ ∀ H', Same H H' → Q (.bl (ns.all inByte)) H'
theorem ok_row {f : Addr} {fd : FuncData} {k : Nat} (F : Fun K "is_row_of_bytes" "is_row_of_bytes" s_is_row_of_bytes f fd) (c_within : CalT P w K mg base 2 "is_integer_within" spWithin)
    (m1 : mg "isinstance" = none) (m2 : mg "list" = none) (m3 : mg "tuple" = none) (m4 : mg "all" = none) : FnOk P w K mg base CX0 (k + 3) f fd ["thing"] spRow := by
  refine F.ok sc_is_row_of_bytes (fun vs H Q E h => ?_) (fun cdv A outer s H vs Q E hr h => ?_)
  · obtain ⟨a, ns, rfl, _⟩ := h
    rfl
  · obtain ⟨a, ns, rfl, ha, hz, q⟩ := h
    have hu := hu_of hr
    have nd := sc_is_row_of_bytes.nd
    refine ⟨_, (pss_cons (ps_if (pt_not (pt_val (pe_callB (call_isiK2 K) (by rfl) (by assumption) (by decide +kernel) (pa_cons (pv 0) (pa_cons (pe_tup (pa_cons (pe_bltn (v := .ty "list") (by rfl) (by assumption) (by decide +kernel) rfl) (pa_cons (pe_bltn (v := .ty "tuple") (by rfl) (by assumption) (by decide +kernel) rfl) pa_nil))) pa_nil)))))
        (pss_one (ps_ret pe_bl))
        pss_nil)
      (pss_one (ps_ret (pe_callB (call_allK K) (by rfl) (by assumption) (by decide +kernel) (pa_cons (pe_lc (own := [("number", 1)]) (g := (gName 1)) (tt := tYes) rfl nd (pi_list (pv 0)) (blkOk_by (N := N_is_row_of_bytes) (sc := defScope s_is_row_of_bytes) (by decide +kernel)) (fun _ _ _ _ _ => (pg_name (i := 1) nd rfl (Or.inl rfl))) (fun _ _ _ _ _ => pts_nil) (fun _ _ _ _ _ => (pe_cc c_within hr (by omega) (by rfl) (pa_cons (pv 1) (pa_cons pe_int (pa_cons pe_int pa_nil)))))) pa_nil))))), ?_⟩
    walk_at "rd"
    intro D hD
    refine lc_map (cs := ns) (enc := V.int) (f := fun i => V.bl (inByte i)) walk_list hD (Nat.lt_of_le_of_lt hz (by decide)) (fun H' e => SqL.of (e _ _ (by walk_at "lk"))) (fun x => rfl) ?_ ?_
    · intro c hc H' e Q' k'
      walk_at "rd"
      exact sp_within (k' _ (Same.refl _))
    · intro H' e hl
      walk_at "rd"
      refine r_all (bs := ns.map inByte) (by rw [List.map_map]; exact SqL.of hl) ?_
      have e2 : (ns.map inByte).all id = ns.all inByte := by rw [List.all_map]; rfl
      rw [e2]
      exact q H' (fun b o x => e b o (by walk_at "lk"))
theorem sp_row {a : Addr} {ns : List Int} {H : Hp} {Q : VK} {E : XK} (ha : H a = some (.lst (ns.map V.int))) (hz : ns.length ≤ 70000) (k : ∀ H', Same H H' → Q (.bl (ns.all inByte)) H') : spRow ([.ref a] ++ []) H Q E := ⟨a, ns, rfl, ha, hz, k⟩
def spBlob : Sp := fun vs H Q _ => ∃ (a : Addr) (ns : List Int), vs = [.ref a] ∧ H a = some (.lst (ns.map V.int)) ∧ ns.length ≤ 70000 ∧ ns.all inByte = true ∧ ∀ H', Same H H' → Q (.byt (byteArr ns)) H'
theorem sp_blob {a : Addr} {ns : List Int} {H : Hp} {Q : VK} {E : XK} (ha : H a = some (.lst (ns.map V.int))) (hz : ns.length ≤ 70000) (hb : ns.all inByte = true) (k : ∀ H', Same H H' → Q (.byt (byteArr ns)) H') : spBlob ([.ref a] ++ []) H Q E := ⟨a, ns, rfl, ha, hz, hb, k⟩
theorem ok_blob {f : Addr} {fd : FuncData} {k : Nat} (F : Fun K "blob" "blob" s_blob f fd) (c_row : CalT P w K mg base 3 "is_row_of_bytes" spRow) (m1 : mg "bytes" = none) : FnOk P w K mg base CX0 (k + 4) f fd ["numbers"] spBlob := by
  refine F.ok sc_blob (fun vs H Q E h => ?_) (fun cdv A outer s H vs Q E hr h => ?_)
  · obtain ⟨a, ns, rfl, _⟩ := h
    rfl
  · obtain ⟨a, ns, rfl, ha, hz, hb, q⟩ := h
    have hu := hu_of hr
    have nd := sc_blob.nd
    refine ⟨_, (pss_cons (ps_if (pt_not (pt_val (pe_cc c_row hr (by omega) (by rfl) (pa_cons (pv 0) pa_nil))))
        (pss_one ps_never)
        pss_nil)
      (pss_one (ps_ret (pe_bytesOf rfl (by rfl) (by assumption) (pv 0))))), ?_⟩
    walk_at "rd"
    refine sp_row ha hz (fun H' e => ?_)
    rw [hb]
    walk_at "rd"
    refine r_bytesL (SqL.of (e _ _ ha)) (fun n hn => ?_) (q H' e)
    have h1 := List.all_eq_true.mp hb n hn
    unfold inByte at h1
    simp only [Bool.and_eq_true, decide_eq_true_eq] at h1
    omega
/-! ### names -/
def NC : Str := "abcdefghijklmnopqrstuvwxyz0123456789._-/"
def nameB (z : Str) : Bool := decide (1 ≤ z.length) && decide (z.length ≤ 250) && z.cps.toList.all (fun c => decide (c ∈ NC.cps.toList))
def nameV : V → Bool
  | .str z => nameB z
  | _ => false
/-- a text of up to 5000 signs, or a value of another kind -/
def AnyS (K : PySem.W.Frag) (H : Hp) (x : V) : Prop := (∃ z : Str, x = .str z ∧ z.length ≤ 5000) ∨ (nameV x = false ∧ ∃ T, TyX K H x (.type T) ∧ kitB T "str" = some false)
theorem AnyS.same {H H' : Hp} {x : V} (e : Same H H') (h : AnyS K H x) : AnyS K H' x := by
  rcases h with h | ⟨h, T, h1, h2⟩
  · exact .inl h
  · exact .inr ⟨h, T, same_tyB e h1, h2⟩
def spName (K : PySem.W.Frag) : Sp := fun vs H Q _ => ∃ x, vs = [x] ∧ AnyS K H x ∧ ∀ H', Same H H' → Q (.bl (nameV x)) H'
theorem sp_name {x : V} {H : Hp} {Q : VK} {E : XK} (ha : AnyS K H x) (k : ∀ H', Same H H' → Q (.bl (nameV x)) H') : spName K ([x] ++ []) H Q E := ⟨x, rfl, ha, k⟩
theorem ok_name {f : Addr} {fd : FuncData} {k : Nat} {t1 t2 : Tok} (F : Fun K "is_name" "is_name" s_is_name f fd) (m1 : mg "isinstance" = none) (m2 : mg "str" = none) (m3 : mg "len" = none) (m4 : mg "all" = none)
    (m_MOST : mg "MOST_CHARACTERS" = some (.int 250 t1)) (m_NC : mg "NAME_CHARACTERS" = some (.str NC t2)) : FnOk P w K mg base CX0 (k + 2) f fd ["thing"] (spName K) := by
  refine F.ok sc_is_name (fun vs H Q E h => ?_) (fun cdv A outer s H vs Q E hr h => ?_)
  · obtain ⟨x, rfl, _⟩ := h
    rfl
  · obtain ⟨x, rfl, hx, q⟩ := h
    have hu := hu_of hr
    have nd := sc_is_name.nd
    refine ⟨_, (pss_cons (ps_if (PW.pt (pw_or (pt_not (pt_val (pe_callB (call_isiK1 K) (by rfl) (by assumption) (by decide +kernel) (pa_cons (pv 0) (pa_cons (pe_bltn (v := .ty "str") (by rfl) (by assumption) (by decide +kernel) rfl) pa_nil))))) (pw_or1 (pt_not (pt_chain op_le op_le pe_int (pe_callB call_rLenZ (by rfl) (by assumption) (by decide +kernel) (pa_cons (pv 0) pa_nil)) (pe_glob (v := .int 250) (by rfl) m_MOST (by first | exact rfl | exact ⟨_, rfl⟩)))))))
        (pss_one (ps_ret pe_bl))
        pss_nil)
      (pss_one (ps_ret (pe_callB (call_allK K) (by rfl) (by assumption) (by decide +kernel) (pa_cons (pe_lc (own := [("character", 1)]) (g := (gName 1)) (tt := tYes) rfl nd (pi_str (pv 0)) (blkOk_by (N := N_is_name) (sc := defScope s_is_name) (by decide +kernel)) (fun _ _ _ _ _ => (pg_name (i := 1) nd rfl (Or.inl rfl))) (fun _ _ _ _ _ => pts_nil) (fun _ _ _ _ _ => (pe_cmpR op_inSign (pv 1) (pe_glob (v := .str NC) (by rfl) m_NC (by first | exact rfl | exact ⟨_, rfl⟩)) (by rfl)))) pa_nil))))), ?_⟩
    rcases hx with ⟨z, rfl, hz⟩ | ⟨hx, T, h1, h2⟩
    · have hz' : z.length ≤ sizeLine := Nat.le_trans hz (by decide)
      have q' : ∀ H', Same H H' → Q (.bl (nameB z)) H' := q
      unfold nameB at q'
      walk_at "rd"
      refine r_iteD (fun h1 => ?_) (fun h1 => ?_)
      · walk_at "rd"
        refine r_iteN (fun h2 => ?_) (fun h2 => ?_)
        · walk_at "rd"
          have h3 : ¬ z.length ≤ 250 := by have := of_decide_eq_false h2; omega
          rw [decide_eq_false h3, Bool.and_false, Bool.false_and] at q'
          exact q' _ (Same.refl _)
        · walk_at "rd"
          intro D hD
          refine lc_map (cs := z.cps.toList) (enc := fun c => V.str ⟨#[c]⟩) (f := fun c => V.bl (decide (c ∈ NC.cps.toList))) walk_strC hD (by have : z.cps.size ≤ 5000 := hz; rw [Array.length_toList]; exact Nat.lt_of_le_of_lt this (by decide)) (fun H' e => True.intro) (fun x => rfl) ?_ ?_
          · intro c hc H' e Q' k'
            walk_at "rd"
            exact k' _ (Same.refl _)
          · intro H' e hl
            walk_at "rd"
            refine r_all (bs := z.cps.toList.map fun c => decide (c ∈ NC.cps.toList)) (by rw [List.map_map]; exact SqL.of hl) ?_
            have h3 : z.length ≤ 250 := by have := of_decide_eq_true h2; omega
            have h1' : 1 ≤ z.length := by omega
            rw [decide_eq_true h3, decide_eq_true h1', Bool.true_and, Bool.true_and] at q'
            have e2 : (z.cps.toList.map fun c => decide (c ∈ NC.cps.toList)).all id = z.cps.toList.all fun c => decide (c ∈ NC.cps.toList) := by rw [List.all_map]; rfl
            rw [e2]
            exact q' H' e
      · walk_at "rd"
        have h3 : ¬ 1 ≤ z.length := by omega
        rw [decide_eq_false h3, Bool.false_and, Bool.false_and] at q'
        exact q' _ (Same.refl _)
    · walk_at "rd"
      rw [hx] at q
      exact q _ (Same.refl _)
end
end Th
namespace Th
open PySem PySem.Spec PyProof.Rows L2
local macro_rules | `(tactic| walk_at "lk") => `(tactic| first
  | assumption
  | exact upd_same
  | (refine upd_old (by assumption) ?_; walk_at "lk")
  | (refine upd_diff (by assumption) ?_; walk_at "lk")
  | (refine upd_diff (Ne.symm (by assumption)) ?_; walk_at "lk"))
local macro_rules | `(tactic| walk_at "cnd") => `(tactic| first
  | omega
  | (refine ⟨by omega, by omega⟩)
  | (refine ⟨by omega, by omega, by omega⟩)
  | (refine .inl ⟨by omega, by omega⟩)
  | (refine .inr ⟨by omega, by omega⟩)
  | (exact (show CPow _ _ from ⟨by decide, by decide, by omega⟩))
  | decide +kernel
  | (unfold CMulW; decide +kernel)
  | (exact wide_div (b := 64) (by omega) (by omega) (by decide) (by decide)))
local macro_rules | `(tactic| walk_at "rd1") => `(tactic| first
  | (with_reducible refine r_seq ?_)
  | (with_reducible refine r_asg ?_)
  | (with_reducible refine r_ret ?_)
  | (with_reducible refine r_if ?_)
  | (with_reducible refine r_gname ?_)
  | ((with_reducible refine' r_var ?hv ?_); (case hv => exact rfl))
  | (with_reducible refine r_c ?_)
  | (with_reducible refine r_op ?_)
  | (with_reducible refine r_I0 ?_)
  | ((with_reducible refine r_I ?hc ?_); (case hc => walk_at "cnd"))
  | (with_reducible refine r_test ?_)
  | (with_reducible refine r_tB ?_)
  | (with_reducible refine r_bl ?_)
  | (with_reducible refine r_not ?_)
  | (with_reducible refine r_and ?_)
  | (with_reducible refine r_or ?_)
  | (with_reducible refine r_ifE ?_)
  | (with_reducible refine r_notV ?_)
  | (with_reducible refine r_andV ?_)
  | (with_reducible refine r_orV ?_)
  | (with_reducible refine r_chain ?_)
  | (with_reducible refine r_cb ?_)
  | (with_reducible refine r_call ?_)
  | (with_reducible refine r_callN ?_)
  | (with_reducible refine r_nil ?_)
  | (with_reducible refine r_cons ?_)
  | ((with_reducible refine r_lst ?_))
  | ((with_reducible refine r_tup ?_))
  | ((with_reducible refine r_new ?_ ?_); (exact Nat.le_of_ble_eq_true rfl); (intro p hp))
  | (with_reducible refine r_rInt1 ?_)
  | (with_reducible refine r_rIntB ?_)
  | (with_reducible refine r_rAbs ?_)
  | (with_reducible refine r_rMin2 ?_)
  | (with_reducible refine r_rMax2 ?_)
  | ((with_reducible refine r_rLenZ ?hz ?_); (case hz => first | assumption | exact Nat.le_of_ble_eq_true rfl | (refine Nat.le_trans ?_ (by decide : 100000 ≤ sizeLine); omega)))
  | ((with_reducible refine r_addZ ?hz ?_); (case hz => (refine Nat.le_trans ?_ (by decide : 100000 ≤ sizeLine); first | omega | (simp only [Str.length] at *; simp; omega))))
  | ((with_reducible refine r_mulZ ?hz ?h0 ?h1 ?_); (case hz => first | omega | exact Nat.le_of_ble_eq_true rfl); (case h0 => omega); (case h1 => omega))
  | ((with_reducible refine' r_rLenQ ?h1 ?_); (case h1 => first | (exact .inl (by assumption)) | (exact .inr (by assumption)) | (exact .inl (SqL.of (by walk_at "lk"))) | (exact .inr (SqT.of (by walk_at "lk")))))
  | ((with_reducible refine r_eq ?hs ?_); (case hs => exact rfl))
  | ((with_reducible refine r_ne ?hs ?_); (case hs => exact rfl))
  | (with_reducible refine r_inC ?_)
  | ((with_reducible refine' r_cat ?h1 ?h2 ?h3 ?_); (case h1 => walk_at "lk"); (case h2 => walk_at "lk"); (case h3 => exact Nat.le_of_ble_eq_true rfl); (intro p hp))
  | ((with_reducible refine' r_rep ?h1 ?h2 ?h3 ?h4 ?_); (case h1 => walk_at "lk"); (case h2 => omega); (case h3 => omega); (case h4 => exact Nat.le_of_ble_eq_true rfl); (intro p hp))
  | ((with_reducible refine' r_append ?h1 ?h2 ?_); (case h1 => walk_at "lk"); (case h2 => first | exact (show _ + 1 ≤ sizeLine from Nat.le_of_ble_eq_true rfl) | exact Nat.lt_of_le_of_lt (by omega : _ ≤ 100000) (by decide)))
  | (with_reducible refine r_bm ?_)
  | ((with_reducible refine' r_tyL ?h1 ?_); (case h1 => walk_at "lk"))
  | ((with_reducible refine' r_ixL ?h1 ?h2 ?_); (case h1 => first | assumption | exact SqL.of (by walk_at "lk")); (case h2 => exact rfl))
  | ((with_reducible refine' r_ixT ?h1 ?h2 ?_); (case h1 => first | assumption | exact SqT.of (by walk_at "lk")); (case h2 => exact rfl))
  | (with_reducible refine r_gsub ?_)
  | ((with_reducible refine' r_setL ?h1 ?h2 ?_); (case h1 => walk_at "lk"); (case h2 => exact rfl))
  | (with_reducible refine r_un ?_)
  | (with_reducible refine r_neg ?_)
  | (with_reducible refine r_iteT ?_)
  | (with_reducible refine r_iteNT ?_)
  | (with_reducible refine r_iteNF ?_)
  | (with_reducible refine r_iteF ?_)
  | (with_reducible refine r_next ?_)
  | (with_reducible refine r_drop ?_)
  | (with_reducible refine r_cont ?_)
  | (with_reducible refine r_brk ?_))
local macro_rules | `(tactic| walk_at "ty") => `(tactic| first
  | assumption
  | exact .base (.int _)
  | exact .base (.str _)
  | exact .base (.bl _)
  | exact .base .non
  | exact .byt _
  | exact .base (.lst (by walk_at "lk"))
  | exact .base (.tup (by walk_at "lk")))
local macro_rules | `(tactic| walk_at "rd2") => `(tactic| first
  | walk_at "rd1"
  | ((with_reducible refine' r_isi true ?ht ?hk ?_); (case ht => walk_at "ty"); (case hk => first | assumption | decide +kernel))
  | ((with_reducible refine' r_isi false ?ht ?hk ?_); (case ht => walk_at "ty"); (case hk => first | assumption | decide +kernel))
  | ((with_reducible refine' r_isiT2 true true ?hT ?ht ?hk ?hk2 ?_); (case hT => walk_at "lk"); (case ht => walk_at "ty"); (case hk => decide +kernel); (case hk2 => decide +kernel))
  | ((with_reducible refine' r_isiT2 true false ?hT ?ht ?hk ?hk2 ?_); (case hT => walk_at "lk"); (case ht => walk_at "ty"); (case hk => decide +kernel); (case hk2 => decide +kernel))
  | ((with_reducible refine' r_isiT2 false true ?hT ?ht ?hk ?hk2 ?_); (case hT => walk_at "lk"); (case ht => walk_at "ty"); (case hk => decide +kernel); (case hk2 => decide +kernel))
  | ((with_reducible refine' r_isiT2 false false ?hT ?ht ?hk ?hk2 ?_); (case hT => walk_at "lk"); (case ht => walk_at "ty"); (case hk => decide +kernel); (case hk2 => decide +kernel))
  | (with_reducible refine r_iteNT ?_)
  | ((show (if (!true) = true then _ else _)); refine r_iteNT ?_)
  | (with_reducible refine r_r1 ?_)
  | (with_reducible refine r_maks ?_)
  | (with_reducible refine r_sfld ?_)
  | ((with_reducible refine' r_sfldE ?h1 ?h2 ?h3 ?h4 ?_); (case h1 => walk_at "lk"); (case h2 => assumption); (case h3 => assumption); (case h4 => exact (show _ + 1 ≤ 1000 from Nat.le_of_ble_eq_true rfl)))
  | (with_reducible refine r_fld ?_)
  | (with_reducible refine r_join ?_)
  | (with_reducible refine r_jcons ?_)
  | (with_reducible refine r_jnil ?_)
  | ((with_reducible refine r_rLenY ?hz ?_); (case hz => first | assumption | (refine Nat.le_trans ?_ (by decide : 100000 ≤ sizeLine); omega)))
  | (with_reducible refine r_par ?_)
  | (with_reducible refine r_pair ?_)
  | (with_reducible refine r_par3 ?_)
  | (with_reducible refine r_trip ?_)
  | ((with_reducible refine' r_gtup ?h1 ?h2 ?_); (case h1 => first | assumption | exact SqT.of (by walk_at "lk")); (case h2 => exact rfl))
  | (with_reducible refine r_gcons ?_)
  | (with_reducible refine r_gnil ?_)
  | ((with_reducible refine' r_slL ?h1 ?_); (case h1 => first | assumption | exact SqL.of (by walk_at "lk")); (intro p hp))
  | (with_reducible refine r_iTup ?_)
  | ((with_reducible refine' r_tupE ?h1 ?_); (case h1 => first | assumption | exact SqT.of (by walk_at "lk")))
  | (with_reducible refine r_m1 ?_)
  | (with_reducible refine r_isZ ?_)
  | (with_reducible refine r_sl ?_)
  | (with_reducible refine r_noPart ?_)
  | (with_reducible refine r_part ?_)
  | (with_reducible refine r_partE ?_)
  | ((with_reducible refine r_slS ?hz ?_); (case hz => first | assumption | (refine Nat.le_trans ?_ (by decide : 100000 ≤ sizeLine); omega)))
  | ((with_reducible refine' r_inT ?h1 ?h2 ?h3 ?_); (case h1 => first | assumption | (exact SqT.of (by walk_at "lk"))); (case h2 => exact rfl); (case h3 => exact rfl))
  | ((with_reducible refine' r_inL ?h1 ?h2 ?h3 ?_); (case h1 => first | assumption | (exact SqL.of (by walk_at "lk"))); (case h2 => exact rfl); (case h3 => exact rfl))
  | (with_reducible refine r_lc ?_)
  | (with_reducible refine r_for ?_)
  | (with_reducible refine r_iStr ?_)
  | (with_reducible refine r_strE ?_)
  | (with_reducible refine r_iList ?_)
  | ((with_reducible refine' r_listE ?h1 ?_); (case h1 => first | assumption | exact SqL.of (by walk_at "lk")))
  | (with_reducible refine r_iRng1 ?_)
  | ((with_reducible refine' r_rngE ?h0 ?h1 ?_); (case h0 => first | omega | (split <;> omega)); (case h1 => first | omega | (split <;> omega))))
local macro_rules | `(tactic| walk_at "rd") => `(tactic| (repeat walk_at "rd2"))
local macro_rules | `(tactic| walk_at "st") => `(tactic| (repeat (first
  | (with_reducible refine r_gname ?_)
  | (with_reducible refine r_next ?_)
  | (with_reducible refine r_seq ?_)
  | (with_reducible refine r_asg ?_)
  | (with_reducible refine r_ret ?_)
  | (with_reducible refine r_for ?_)
  | (with_reducible refine r_iRng1 ?_)
  | (with_reducible refine r_iList ?_)
  | (with_reducible refine r_cons ?_)
  | (with_reducible refine r_par ?_)
  | (with_reducible refine r_par3 ?_))))
/-! ### paths -/
def NPs : List V := [.str "", .str ".", .str ".."]
def badP (p : Str) : Bool := inV (.str p) NPs
def pathB (z : Str) : Bool := nameB z && !((Txt.split z "/").any badP)
def pathV : V → Bool
  | .str z => pathB z
  | _ => false
/-- the law's own look: the part so far, the signs that follow -/
def chk : List Nat → List Nat → Bool
  | _, [] => true
  | part, c :: r => if c = 47 then (if badP ⟨part.toArray⟩ then false else chk [] r) else chk (part ++ [c]) r
theorem pre47 (c : Nat) (r : List Nat) : TL.pre [47] (c :: r) = decide (c = 47) := by
  unfold TL.pre
  show (([c] : List Nat) == [47]) = _
  by_cases h : c = 47
  · subst h; rfl
  · rw [decide_eq_false h]
    simp [h]
theorem chk_spl : ∀ (a acc : List Nat), chk acc (a ++ [47]) = !((TL.spl [47] 0 acc a).any fun p => badP ⟨p.toArray⟩)
  | [], acc => by
    show (if (47 : Nat) = 47 then (if badP ⟨acc.toArray⟩ then false else chk [] []) else _) = _
    rw [if_pos rfl, TL.spl_nil]
    cases h : badP ⟨acc.toArray⟩ <;> simp [h, chk]
  | c :: r, acc => by
    show (if c = 47 then (if badP ⟨acc.toArray⟩ then false else chk [] (r ++ [47])) else chk (acc ++ [c]) (r ++ [47])) = _
    by_cases h : c = 47
    · rw [if_pos h, TL.spl_hit (by rw [pre47]; exact decide_eq_true h), List.any_cons]
      have ih := chk_spl r []
      cases hb : badP ⟨acc.toArray⟩
      · simpa using ih
      · simp
    · rw [if_neg h, TL.spl_miss (by rw [pre47]; exact decide_eq_false h)]
      exact chk_spl r (acc ++ [c])
theorem slash : (("/" : Str)) = SX.S [47] := by decide +kernel
theorem path_chk (z : Str) : (!((Txt.split z "/").any badP)) = chk [] (z.cps.toList ++ [47]) := by
  rw [chk_spl, slash, ← SX.S_tl z, SX.split_S (by decide) (by decide), List.any_map]
  rfl
theorem spl_len : ∀ (a acc : List Nat), (TL.spl [47] 0 acc a).length ≤ a.length + 1
  | [], acc => by rw [TL.spl_nil]; simp
  | c :: r, acc => by
    by_cases h : c = 47
    · rw [TL.spl_hit (by rw [pre47]; exact decide_eq_true h)]
      have := spl_len r []
      show (TL.spl [47] 0 [] r).length + 1 ≤ (r.length + 1) + 1
      omega
    · rw [TL.spl_miss (by rw [pre47]; exact decide_eq_false h), List.length_cons]
      have := spl_len r (acc ++ [c])
      omega
section
variable {P : Program} {w : World} {K : PySem.W.Frag} {mg : Str → Option Value} {base : Heap}
theorem AnyS.str {H : Hp} {x : V} (h : AnyS K H x) (hb : nameV x = true) : ∃ z : Str, x = .str z ∧ z.length ≤ 5000 := by
  rcases h with h | ⟨h, _⟩
  · exact h
  · rw [h] at hb; cases hb
theorem pathV_no {x : V} (h : nameV x = false) : pathV x = false := by
  cases x with
  | str z =>
    have h' : nameB z = false := h
    show (nameB z && _) = false
    rw [h', Bool.false_and]
  | _ => rfl
def spPath (K : PySem.W.Frag) : Sp := fun vs H Q _ => ∃ x, vs = [x] ∧ AnyS K H x ∧ ∀ H', Same H H' → Q (.bl (pathV x)) H'
theorem sp_path {x : V} {H : Hp} {Q : VK} {E : XK} (ha : AnyS K H x) (k : ∀ H', Same H H' → Q (.bl (pathV x)) H') : spPath K ([x] ++ []) H Q E := ⟨x, rfl, ha, k⟩
theorem ok_path {f aNP : Addr} {fd : FuncData} {k : Nat} (F : Fun K "is_path" "is_path" s_is_path f fd) (m1 : mg "any" = none) (m_NP : mg "NO_PARTS" = some (.ref aNP)) (hNP : ∀ H, SqT K H aNP NPs)
    (c_is_name : CalT P w K mg base 2 "is_name" (spName K)) : FnOk P w K mg base CX0 (k + 3) f fd ["thing"] (spPath K) := by
  refine F.ok sc_is_path (fun vs H Q E h => ?_) (fun cdv A outer s H vs Q E hr h => ?_)
  · obtain ⟨x, rfl, _⟩ := h
    rfl
  · obtain ⟨x, rfl, hx, q⟩ := h
    have hu := hu_of hr
    have nd := sc_is_path.nd
    refine ⟨_, (pss_cons (ps_if (pt_not (pt_val (pe_cc c_is_name hr (by omega) (by rfl) (pa_cons (pv 0) pa_nil))))
        (pss_one (ps_ret pe_bl))
        pss_nil)
      (pss_one (ps_ret (pe_not (pe_callB (call_anyK K) (by rfl) (by assumption) (by decide +kernel) (pa_cons (pe_lc (own := [("part", 1)]) (g := (gName 1)) (tt := tYes) rfl nd (pi_list (pe_splitN (pe_split (pv 0) pe_str))) (blkOk_by (N := N_is_path) (sc := defScope s_is_path) (by decide +kernel)) (fun _ _ _ _ _ => (pg_name (i := 1) nd rfl (Or.inl rfl))) (fun _ _ _ _ _ => pts_nil) (fun _ _ _ _ _ => (pe_cmpR (op_inK K) (pv 1) (pe_glob (v := .ref aNP) (by rfl) m_NP (by first | exact rfl | exact ⟨_, rfl⟩)) (by rfl)))) pa_nil)))))), ?_⟩
    walk_at "rd"
    refine sp_name hx (fun H1 e1 => ?_)
    walk_at "rd"
    refine r_iteN (fun hb => ?_) (fun hb => ?_)
    · walk_at "rd"
      rw [pathV_no hb] at q
      exact q _ e1
    · obtain ⟨z, rfl, hz⟩ := hx.str hb
      have hb' : nameB z = true := hb
      have q' : ∀ H', Same H H' → Q (.bl (pathB z)) H' := q
      unfold pathB at q'
      rw [hb', Bool.true_and] at q'
      walk_at "rd"
      refine r_split rfl (Nat.le_trans (by omega : z.length + 2 ≤ 100000) (by decide)) (fun p hp => ?_)
      walk_at "rd"
      intro D hD
      have hsz : (Txt.split z "/").length ≤ 100000 := by
        rw [slash, ← SX.S_tl z, SX.split_S (by decide) (by decide), List.length_map]
        have h1 := spl_len z.cps.toList []
        have h2 : z.cps.toList.length = z.length := by simp [Str.length]
        omega
      refine lc_map (cs := Txt.split z "/") (enc := V.str) (f := fun p => V.bl (badP p)) walk_list hD (Nat.lt_of_le_of_lt hsz (by decide)) (fun H' e => SqL.of (e _ _ upd_same)) (fun x => rfl) ?_ ?_
      · intro c hc H' e Q' k'
        walk_at "rd"
        exact r_inT (hNP _) rfl rfl (k' _ (Same.refl _))
      · intro H' e hl
        walk_at "rd"
        refine r_any (bs := (Txt.split z "/").map badP) (by rw [List.map_map]; exact SqL.of hl) ?_
        have e2 : ((Txt.split z "/").map badP).any id = (Txt.split z "/").any badP := by rw [List.any_map]; rfl
        rw [e2]
        walk_at "rd"
        exact q' H' (fun b o x => e b o (by rw [upd_ne (ne_of_none (e1 b o x) hp)]; exact e1 b o x))
end
end Th
namespace Th
open PySem PySem.Spec PyProof.Rows L2
local macro_rules | `(tactic| walk_at "lk") => `(tactic| first
  | assumption
  | exact upd_same
  | (refine upd_old (by assumption) ?_; walk_at "lk")
  | (refine upd_diff (by assumption) ?_; walk_at "lk")
  | (refine upd_diff (Ne.symm (by assumption)) ?_; walk_at "lk"))
local macro_rules | `(tactic| walk_at "cnd") => `(tactic| first
  | omega
  | (refine ⟨by omega, by omega⟩)
  | (refine ⟨by omega, by omega, by omega⟩)
  | (refine .inl ⟨by omega, by omega⟩)
  | (refine .inr ⟨by omega, by omega⟩)
  | (exact (show CPow _ _ from ⟨by decide, by decide, by omega⟩))
  | decide +kernel
  | (unfold CMulW; decide +kernel)
  | (exact wide_div (b := 64) (by omega) (by omega) (by decide) (by decide)))
local macro_rules | `(tactic| walk_at "rd1") => `(tactic| first
  | (with_reducible refine r_seq ?_)
  | (with_reducible refine r_asg ?_)
  | (with_reducible refine r_ret ?_)
  | (with_reducible refine r_if ?_)
  | (with_reducible refine r_gname ?_)
  | ((with_reducible refine' r_var ?hv ?_); (case hv => exact rfl))
  | (with_reducible refine r_c ?_)
  | (with_reducible refine r_op ?_)
  | (with_reducible refine r_I0 ?_)
  | ((with_reducible refine r_I ?hc ?_); (case hc => walk_at "cnd"))
  | (with_reducible refine r_test ?_)
  | (with_reducible refine r_tB ?_)
  | (with_reducible refine r_bl ?_)
  | (with_reducible refine r_not ?_)
  | (with_reducible refine r_and ?_)
  | (with_reducible refine r_or ?_)
  | (with_reducible refine r_ifE ?_)
  | (with_reducible refine r_notV ?_)
  | (with_reducible refine r_andV ?_)
  | (with_reducible refine r_orV ?_)
  | (with_reducible refine r_chain ?_)
  | (with_reducible refine r_cb ?_)
  | (with_reducible refine r_call ?_)
  | (with_reducible refine r_callN ?_)
  | (with_reducible refine r_nil ?_)
  | (with_reducible refine r_cons ?_)
  | ((with_reducible refine r_lst ?_))
  | ((with_reducible refine r_tup ?_))
  | ((with_reducible refine r_new ?_ ?_); (exact Nat.le_of_ble_eq_true rfl); (intro p hp))
  | (with_reducible refine r_rInt1 ?_)
  | (with_reducible refine r_rIntB ?_)
  | (with_reducible refine r_rAbs ?_)
  | (with_reducible refine r_rMin2 ?_)
  | (with_reducible refine r_rMax2 ?_)
  | ((with_reducible refine r_rLenZ ?hz ?_); (case hz => first | assumption | exact Nat.le_of_ble_eq_true rfl | (refine Nat.le_trans ?_ (by decide : 100000 ≤ sizeLine); omega)))
  | ((with_reducible refine r_addZ ?hz ?_); (case hz => (refine Nat.le_trans ?_ (by decide : 100000 ≤ sizeLine); first | omega | (simp only [Str.length] at *; simp; omega))))
  | ((with_reducible refine r_mulZ ?hz ?h0 ?h1 ?_); (case hz => first | omega | exact Nat.le_of_ble_eq_true rfl); (case h0 => omega); (case h1 => omega))
  | ((with_reducible refine' r_rLenQ ?h1 ?_); (case h1 => first | (exact .inl (by assumption)) | (exact .inr (by assumption)) | (exact .inl (SqL.of (by walk_at "lk"))) | (exact .inr (SqT.of (by walk_at "lk")))))
  | ((with_reducible refine r_eq ?hs ?_); (case hs => exact rfl))
  | ((with_reducible refine r_ne ?hs ?_); (case hs => exact rfl))
  | (with_reducible refine r_inC ?_)
  | ((with_reducible refine' r_cat ?h1 ?h2 ?h3 ?_); (case h1 => walk_at "lk"); (case h2 => walk_at "lk"); (case h3 => exact Nat.le_of_ble_eq_true rfl); (intro p hp))
  | ((with_reducible refine' r_rep ?h1 ?h2 ?h3 ?h4 ?_); (case h1 => walk_at "lk"); (case h2 => omega); (case h3 => omega); (case h4 => exact Nat.le_of_ble_eq_true rfl); (intro p hp))
  | ((with_reducible refine' r_append ?h1 ?h2 ?_); (case h1 => walk_at "lk"); (case h2 => first | exact (show _ + 1 ≤ sizeLine from Nat.le_of_ble_eq_true rfl) | exact Nat.lt_of_le_of_lt (by omega : _ ≤ 100000) (by decide)))
  | (with_reducible refine r_bm ?_)
  | ((with_reducible refine' r_tyL ?h1 ?_); (case h1 => walk_at "lk"))
  | ((with_reducible refine' r_ixL ?h1 ?h2 ?_); (case h1 => first | assumption | exact SqL.of (by walk_at "lk")); (case h2 => exact rfl))
  | ((with_reducible refine' r_ixT ?h1 ?h2 ?_); (case h1 => first | assumption | exact SqT.of (by walk_at "lk")); (case h2 => exact rfl))
  | (with_reducible refine r_gsub ?_)
  | ((with_reducible refine' r_setL ?h1 ?h2 ?_); (case h1 => walk_at "lk"); (case h2 => exact rfl))
  | (with_reducible refine r_un ?_)
  | (with_reducible refine r_neg ?_)
  | (with_reducible refine r_iteT ?_)
  | (with_reducible refine r_iteNT ?_)
  | (with_reducible refine r_iteNF ?_)
  | (with_reducible refine r_iteF ?_)
  | (with_reducible refine r_next ?_)
  | (with_reducible refine r_drop ?_)
  | (with_reducible refine r_cont ?_)
  | (with_reducible refine r_brk ?_))
local macro_rules | `(tactic| walk_at "ty") => `(tactic| first
  | assumption
  | exact .base (.int _)
  | exact .base (.str _)
  | exact .base (.bl _)
  | exact .base .non
  | exact .byt _
  | exact .base (.lst (by walk_at "lk"))
  | exact .base (.tup (by walk_at "lk")))
local macro_rules | `(tactic| walk_at "rd2") => `(tactic| first
  | walk_at "rd1"
  | ((with_reducible refine' r_isi true ?ht ?hk ?_); (case ht => walk_at "ty"); (case hk => first | assumption | decide +kernel))
  | ((with_reducible refine' r_isi false ?ht ?hk ?_); (case ht => walk_at "ty"); (case hk => first | assumption | decide +kernel))
  | ((with_reducible refine' r_isiT2 true true ?hT ?ht ?hk ?hk2 ?_); (case hT => walk_at "lk"); (case ht => walk_at "ty"); (case hk => decide +kernel); (case hk2 => decide +kernel))
  | ((with_reducible refine' r_isiT2 true false ?hT ?ht ?hk ?hk2 ?_); (case hT => walk_at "lk"); (case ht => walk_at "ty"); (case hk => decide +kernel); (case hk2 => decide +kernel))
  | ((with_reducible refine' r_isiT2 false true ?hT ?ht ?hk ?hk2 ?_); (case hT => walk_at "lk"); (case ht => walk_at "ty"); (case hk => decide +kernel); (case hk2 => decide +kernel))
  | ((with_reducible refine' r_isiT2 false false ?hT ?ht ?hk ?hk2 ?_); (case hT => walk_at "lk"); (case ht => walk_at "ty"); (case hk => decide +kernel); (case hk2 => decide +kernel))
  | (with_reducible refine r_iteNT ?_)
  | ((show (if (!true) = true then _ else _)); refine r_iteNT ?_)
  | (with_reducible refine r_r1 ?_)
  | (with_reducible refine r_maks ?_)
  | (with_reducible refine r_sfld ?_)
  | ((with_reducible refine' r_sfldE ?h1 ?h2 ?h3 ?h4 ?_); (case h1 => walk_at "lk"); (case h2 => assumption); (case h3 => assumption); (case h4 => exact (show _ + 1 ≤ 1000 from Nat.le_of_ble_eq_true rfl)))
  | (with_reducible refine r_fld ?_)
  | (with_reducible refine r_join ?_)
  | (with_reducible refine r_jcons ?_)
  | (with_reducible refine r_jnil ?_)
  | ((with_reducible refine r_rLenY ?hz ?_); (case hz => first | assumption | (refine Nat.le_trans ?_ (by decide : 100000 ≤ sizeLine); omega)))
  | (with_reducible refine r_par ?_)
  | (with_reducible refine r_pair ?_)
  | (with_reducible refine r_par3 ?_)
  | (with_reducible refine r_trip ?_)
  | ((with_reducible refine' r_gtup ?h1 ?h2 ?_); (case h1 => first | assumption | exact SqT.of (by walk_at "lk")); (case h2 => exact rfl))
  | (with_reducible refine r_gcons ?_)
  | (with_reducible refine r_gnil ?_)
  | ((with_reducible refine' r_slL ?h1 ?_); (case h1 => first | assumption | exact SqL.of (by walk_at "lk")); (intro p hp))
  | (with_reducible refine r_iTup ?_)
  | ((with_reducible refine' r_tupE ?h1 ?_); (case h1 => first | assumption | exact SqT.of (by walk_at "lk")))
  | (with_reducible refine r_m1 ?_)
  | (with_reducible refine r_isZ ?_)
  | (with_reducible refine r_sl ?_)
  | (with_reducible refine r_noPart ?_)
  | (with_reducible refine r_part ?_)
  | (with_reducible refine r_partE ?_)
  | ((with_reducible refine r_slS ?hz ?_); (case hz => first | assumption | (refine Nat.le_trans ?_ (by decide : 100000 ≤ sizeLine); omega)))
  | ((with_reducible refine' r_inT ?h1 ?h2 ?h3 ?_); (case h1 => first | assumption | (exact SqT.of (by walk_at "lk"))); (case h2 => exact rfl); (case h3 => exact rfl))
  | ((with_reducible refine' r_inL ?h1 ?h2 ?h3 ?_); (case h1 => first | assumption | (exact SqL.of (by walk_at "lk"))); (case h2 => exact rfl); (case h3 => exact rfl))
  | (with_reducible refine r_lc ?_)
  | (with_reducible refine r_for ?_)
  | (with_reducible refine r_iStr ?_)
  | (with_reducible refine r_strE ?_)
  | (with_reducible refine r_iList ?_)
  | ((with_reducible refine' r_listE ?h1 ?_); (case h1 => first | assumption | exact SqL.of (by walk_at "lk")))
  | (with_reducible refine r_iRng1 ?_)
  | ((with_reducible refine' r_rngE ?h0 ?h1 ?_); (case h0 => first | omega | (split <;> omega)); (case h1 => first | omega | (split <;> omega))))
local macro_rules | `(tactic| walk_at "rd") => `(tactic| (repeat walk_at "rd2"))
local macro_rules | `(tactic| walk_at "st") => `(tactic| (repeat (first
  | (with_reducible refine r_gname ?_)
  | (with_reducible refine r_next ?_)
  | (with_reducible refine r_seq ?_)
  | (with_reducible refine r_asg ?_)
  | (with_reducible refine r_ret ?_)
  | (with_reducible refine r_for ?_)
  | (with_reducible refine r_iRng1 ?_)
  | (with_reducible refine r_iList ?_)
  | (with_reducible refine r_cons ?_)
  | (with_reducible refine r_par ?_)
  | (with_reducible refine r_par3 ?_))))
section
variable {P : Program} {w : World} {K : PySem.W.Frag} {mg : Str → Option Value} {base : Heap}
theorem ok_lname {f : Addr} {fd : FuncData} {k : Nat} (F : Fun K "_law_is_name" "_law_is_name" s__law_is_name f fd) (m1 : mg "isinstance" = none) (m2 : mg "str" = none) (m3 : mg "len" = none) (m4 : mg "all" = none) :
    FnOk P w K mg base CX0 (k + 2) f fd ["_law_given"] (spName K) := by
  refine F.ok sc__law_is_name (fun vs H Q E h => ?_) (fun cdv A outer s H vs Q E hr h => ?_)
  · obtain ⟨x, rfl, _⟩ := h
    rfl
  · obtain ⟨x, rfl, hx, q⟩ := h
    have hu := hu_of hr
    have nd := sc__law_is_name.nd
    refine ⟨_, (pss_cons (ps_if (PW.pt (pw_or (pt_not (pt_val (pe_callB (call_isiK1 K) (by rfl) (by assumption) (by decide +kernel) (pa_cons (pv 0) (pa_cons (pe_bltn (v := .ty "str") (by rfl) (by assumption) (by decide +kernel) rfl) pa_nil))))) (pw_or1 (pt_not (pt_chain op_le op_le pe_int (pe_callB call_rLenZ (by rfl) (by assumption) (by decide +kernel) (pa_cons (pv 0) pa_nil)) pe_int)))))
        (pss_one (ps_ret pe_bl))
        pss_nil)
      (pss_one (ps_ret (pe_callB (call_allK K) (by rfl) (by assumption) (by decide +kernel) (pa_cons (pe_lc (own := [("_law_sign", 1)]) (g := (gName 1)) (tt := tYes) rfl nd (pi_str (pv 0)) (blkOk_by (N := N__law_is_name) (sc := defScope s__law_is_name) (by decide +kernel)) (fun _ _ _ _ _ => (pg_name (i := 1) nd rfl (Or.inl rfl))) (fun _ _ _ _ _ => pts_nil) (fun _ _ _ _ _ => (pe_cmpR op_inSign (pv 1) pe_str (by rfl)))) pa_nil))))), ?_⟩
    rcases hx with ⟨z, rfl, hz⟩ | ⟨hx, T, h1, h2⟩
    · have hz' : z.length ≤ sizeLine := Nat.le_trans hz (by decide)
      have q' : ∀ H', Same H H' → Q (.bl (nameB z)) H' := q
      unfold nameB at q'
      walk_at "rd"
      refine r_iteD (fun h1 => ?_) (fun h1 => ?_)
      · walk_at "rd"
        refine r_iteN (fun h2 => ?_) (fun h2 => ?_)
        · walk_at "rd"
          have h3 : ¬ z.length ≤ 250 := by have := of_decide_eq_false h2; omega
          rw [decide_eq_false h3, Bool.and_false, Bool.false_and] at q'
          exact q' _ (Same.refl _)
        · walk_at "rd"
          intro D hD
          refine lc_map (cs := z.cps.toList) (enc := fun c => V.str ⟨#[c]⟩) (f := fun c => V.bl (decide (c ∈ NC.cps.toList))) walk_strC hD (by have : z.cps.size ≤ 5000 := hz; rw [Array.length_toList]; exact Nat.lt_of_le_of_lt this (by decide)) (fun H' e => True.intro) (fun x => rfl) ?_ ?_
          · intro c hc H' e Q' k'
            walk_at "rd"
            exact k' _ (Same.refl _)
          · intro H' e hl
            walk_at "rd"
            refine r_all (bs := z.cps.toList.map fun c => decide (c ∈ NC.cps.toList)) (by rw [List.map_map]; exact SqL.of hl) ?_
            have h3 : z.length ≤ 250 := by have := of_decide_eq_true h2; omega
            have h1' : 1 ≤ z.length := by omega
            rw [decide_eq_true h3, decide_eq_true h1', Bool.true_and, Bool.true_and] at q'
            have e2 : (z.cps.toList.map fun c => decide (c ∈ NC.cps.toList)).all id = z.cps.toList.all fun c => decide (c ∈ NC.cps.toList) := by rw [List.all_map]; rfl
            rw [e2]
            exact q' H' e
      · walk_at "rd"
        have h3 : ¬ 1 ≤ z.length := by omega
        rw [decide_eq_false h3, Bool.false_and, Bool.false_and] at q'
        exact q' _ (Same.refl _)
    · walk_at "rd"
      rw [hx] at q
      exact q _ (Same.refl _)
theorem str_one (c : Nat) : decide (V.str ⟨#[c]⟩ = V.str "/") = decide (c = 47) := by
  have e : ("/" : Str) = ⟨#[47]⟩ := by decide +kernel
  rw [e]
  by_cases h : c = 47
  · subst h; simp
  · rw [decide_eq_false h, decide_eq_false]
    intro z
    injection z with z
    injection z with z
    simp at z
    exact h z
theorem ok_lpath {f : Addr} {fd : FuncData} {k : Nat} (F : Fun K "_law_is_path" "_law_is_path" s__law_is_path f fd) (c_lname : CalT P w K mg base 2 "_law_is_name" (spName K)) :
    FnOk P w K mg base CX0 (k + 3) f fd ["_law_given"] (spPath K) := by
  refine F.ok sc__law_is_path (fun vs H Q E h => ?_) (fun cdv A outer s H vs Q E hr h => ?_)
  · obtain ⟨x, rfl, _⟩ := h
    rfl
  · obtain ⟨x, rfl, hx, q⟩ := h
    have hu := hu_of hr
    have nd := sc__law_is_path.nd
    refine ⟨_, (pss_cons (ps_if (pt_not (pt_val (pe_cc c_lname hr (by omega) (by rfl) (pa_cons (pv 0) pa_nil))))
        (pss_one (ps_ret pe_bl))
        pss_nil)
      (pss_cons (ps_set (i := 1) nd rfl (Or.inl rfl) pe_str)
      (pss_cons (ps_for PassesOwn.never rfl (pi_str (pe_op op_addZ (pv 0) pe_str)) (pg_name (i := 2) nd rfl (Or.inl rfl))
        (pss_one (ps_if (pt_cmpR op_ne (pv 2) pe_str (nomark _))
        (pss_one (ps_set (i := 1) nd rfl (Or.inl rfl) (pe_op op_addZ (pv 1) (pv 2))))
        (pss_one (ps_if (pt_cmpR (op_inK K) (pv 1) (pe_tup (pa_cons pe_str (pa_cons pe_str (pa_cons pe_str pa_nil)))) (by rfl))
        (pss_one (ps_ret pe_bl))
        (pss_one (ps_set (i := 1) nd rfl (Or.inl rfl) pe_str)))))))
      (pss_one (ps_ret pe_bl))))), ?_⟩
    walk_at "rd"
    refine sp_name hx (fun H1 e1 => ?_)
    walk_at "rd"
    refine r_iteN (fun hb => ?_) (fun hb => ?_)
    · walk_at "rd"
      rw [pathV_no hb] at q
      exact q _ e1
    · obtain ⟨z, rfl, hz⟩ := hx.str hb
      have hb' : nameB z = true := hb
      have q' : ∀ H', Same H H' → Q (.bl (pathB z)) H' := q
      unfold pathB at q'
      rw [hb', Bool.true_and, path_chk] at q'
      have one : Str.length "/" = 1 := by decide +kernel
      walk_at "rd"
      have hcs : (z ++ "/" : Str).cps.toList = z.cps.toList ++ [47] := by rw [slash]; exact TL.tl_append z (SX.S [47])
      have hzl : z.cps.toList.length = z.length := by simp [Str.length]
      refine for_it (walk_strC (z := z ++ "/")) (fun i σ H' => ∃ (part : Str) (v : Option V), σ = [some (.str z), some (.str part), v] ∧ Same H H' ∧ part.length ≤ i ∧ chk part.cps.toList ((z.cps.toList ++ [47]).drop i) = chk [] (z.cps.toList ++ [47])) ?_ (fun _ _ _ _ _ => True.intro) ?_ ?_
      · exact ⟨_, _, rfl, e1, Nat.le_refl 0, rfl⟩
      · rintro i x σ Hc H' hi ⟨part, v, rfl, e, hl, hc⟩ ⟨rfl, hx⟩
        rw [hcs] at hx hi
        rw [List.length_map] at hi
        have hi' : i < z.length + 1 := by rw [List.length_append, hzl] at hi; exact hi
        rw [List.getElem?_map, List.getElem?_eq_getElem hi] at hx
        have hx' := (Option.some.inj hx).symm
        subst hx'
        rw [List.drop_eq_getElem_cons hi] at hc
        generalize (z.cps.toList ++ [47])[i] = c at hc
        walk_at "rd"
        refine r_iteN (fun h1 => ?_) (fun h1 => ?_)
        · rw [str_one] at h1
          have h1' := of_decide_eq_false h1
          have onec : Str.length ⟨#[c]⟩ = 1 := rfl
          walk_at "rd"
          refine ⟨part ++ ⟨#[c]⟩, _, rfl, e, ?_, ?_⟩
          · have : (part ++ (⟨#[c]⟩ : Str)).length = part.length + 1 := by rw [← SX.S_tl part]; show (SX.S _ ++ SX.S [c]).length = _; rw [SX.S_cat, SX.S_len, SX.S_len, List.length_append]; rfl
            omega
          · rw [← hc]
            show _ = (if c = 47 then _ else chk (part.cps.toList ++ [c]) _)
            rw [if_neg h1']
            congr 1
            exact TL.tl_append part (SX.S [c])
        · rw [str_one] at h1
          have h1' := of_decide_eq_true h1
          walk_at "rd"
          have hc' : (if badP part then false else chk [] ((z.cps.toList ++ [47]).drop (i + 1))) = chk [] (z.cps.toList ++ [47]) := by
            rw [← hc]
            show _ = (if c = 47 then (if badP ⟨part.cps.toList.toArray⟩ then false else _) else _)
            rw [if_pos h1']
          refine r_iteB (fun h2 => ?_) (fun h2 => ?_)
          · walk_at "rd"
            have h2' : badP part = true := h2
            rw [h2', if_pos rfl] at hc'
            rw [← hc'] at q'
            exact q' _ (fun b o x => upd_old (by assumption) (e b o x))
          · walk_at "rd"
            have h2' : badP part = false := h2
            rw [h2', if_neg Bool.false_ne_true] at hc'
            exact ⟨_, _, rfl, (fun b o x => upd_old (by assumption) (e b o x)), Nat.zero_le _, hc'⟩
      · rintro σ Hc ⟨part, v, rfl, e, hl, hc⟩
        walk_at "rd"
        rw [hcs, List.length_map, List.drop_length] at hc
        have hc' : true = chk [] (z.cps.toList ++ [47]) := hc
        rw [← hc'] at q'
        exact q' _ e
end
end Th
namespace Th
open PySem PySem.Spec PyProof.Rows L2
local macro_rules | `(tactic| walk_at "lk") => `(tactic| first
  | assumption
  | exact upd_same
  | (refine upd_old (by assumption) ?_; walk_at "lk")
  | (refine upd_diff (by assumption) ?_; walk_at "lk")
  | (refine upd_diff (Ne.symm (by assumption)) ?_; walk_at "lk"))
local macro_rules | `(tactic| walk_at "cnd") => `(tactic| first
  | omega
  | (refine ⟨by omega, by omega⟩)
  | (refine ⟨by omega, by omega, by omega⟩)
  | (refine .inl ⟨by omega, by omega⟩)
  | (refine .inr ⟨by omega, by omega⟩)
  | (exact (show CPow _ _ from ⟨by decide, by decide, by omega⟩))
  | decide +kernel
  | (unfold CMulW; decide +kernel)
  | (exact wide_div (b := 64) (by omega) (by omega) (by decide) (by decide)))
local macro_rules | `(tactic| walk_at "rd1") => `(tactic| first
  | (with_reducible refine r_seq ?_)
  | (with_reducible refine r_asg ?_)
  | (with_reducible refine r_ret ?_)
  | (with_reducible refine r_if ?_)
  | (with_reducible refine r_gname ?_)
  | ((with_reducible refine' r_var ?hv ?_); (case hv => exact rfl))
  | (with_reducible refine r_c ?_)
  | (with_reducible refine r_op ?_)
  | (with_reducible refine r_I0 ?_)
  | ((with_reducible refine r_I ?hc ?_); (case hc => walk_at "cnd"))
  | (with_reducible refine r_test ?_)
  | (with_reducible refine r_tB ?_)
  | (with_reducible refine r_bl ?_)
  | (with_reducible refine r_not ?_)
  | (with_reducible refine r_and ?_)
  | (with_reducible refine r_or ?_)
  | (with_reducible refine r_ifE ?_)
  | (with_reducible refine r_notV ?_)
  | (with_reducible refine r_andV ?_)
  | (with_reducible refine r_orV ?_)
  | (with_reducible refine r_chain ?_)
  | (with_reducible refine r_cb ?_)
  | (with_reducible refine r_call ?_)
  | (with_reducible refine r_callN ?_)
  | (with_reducible refine r_nil ?_)
  | (with_reducible refine r_cons ?_)
  | ((with_reducible refine r_lst ?_))
  | ((with_reducible refine r_tup ?_))
  | ((with_reducible refine r_new ?_ ?_); (exact Nat.le_of_ble_eq_true rfl); (intro p hp))
  | (with_reducible refine r_rInt1 ?_)
  | (with_reducible refine r_rIntB ?_)
  | (with_reducible refine r_rAbs ?_)
  | (with_reducible refine r_rMin2 ?_)
  | (with_reducible refine r_rMax2 ?_)
  | ((with_reducible refine r_rLenZ ?hz ?_); (case hz => first | assumption | exact Nat.le_of_ble_eq_true rfl | (refine Nat.le_trans ?_ (by decide : 100000 ≤ sizeLine); omega)))
  | ((with_reducible refine r_addZ ?hz ?_); (case hz => (refine Nat.le_trans ?_ (by decide : 100000 ≤ sizeLine); first | omega | (simp only [Str.length] at *; simp; omega))))
  | ((with_reducible refine r_mulZ ?hz ?h0 ?h1 ?_); (case hz => first | omega | exact Nat.le_of_ble_eq_true rfl); (case h0 => omega); (case h1 => omega))
  | ((with_reducible refine' r_rLenQ ?h1 ?_); (case h1 => first | (exact .inl (by assumption)) | (exact .inr (by assumption)) | (exact .inl (SqL.of (by walk_at "lk"))) | (exact .inr (SqT.of (by walk_at "lk")))))
  | ((with_reducible refine r_eq ?hs ?_); (case hs => exact rfl))
  | ((with_reducible refine r_ne ?hs ?_); (case hs => exact rfl))
  | (with_reducible refine r_inC ?_)
  | ((with_reducible refine' r_cat ?h1 ?h2 ?h3 ?_); (case h1 => walk_at "lk"); (case h2 => walk_at "lk"); (case h3 => exact Nat.le_of_ble_eq_true rfl); (intro p hp))
  | ((with_reducible refine' r_rep ?h1 ?h2 ?h3 ?h4 ?_); (case h1 => walk_at "lk"); (case h2 => omega); (case h3 => omega); (case h4 => exact Nat.le_of_ble_eq_true rfl); (intro p hp))
  | ((with_reducible refine' r_append ?h1 ?h2 ?_); (case h1 => walk_at "lk"); (case h2 => first | exact (show _ + 1 ≤ sizeLine from Nat.le_of_ble_eq_true rfl) | exact Nat.lt_of_le_of_lt (by omega : _ ≤ 100000) (by decide)))
  | (with_reducible refine r_bm ?_)
  | ((with_reducible refine' r_tyL ?h1 ?_); (case h1 => walk_at "lk"))
  | ((with_reducible refine' r_ixL ?h1 ?h2 ?_); (case h1 => first | assumption | exact SqL.of (by walk_at "lk")); (case h2 => exact rfl))
  | ((with_reducible refine' r_ixT ?h1 ?h2 ?_); (case h1 => first | assumption | exact SqT.of (by walk_at "lk")); (case h2 => exact rfl))
  | (with_reducible refine r_gsub ?_)
  | ((with_reducible refine' r_setL ?h1 ?h2 ?_); (case h1 => walk_at "lk"); (case h2 => exact rfl))
  | (with_reducible refine r_un ?_)
  | (with_reducible refine r_neg ?_)
  | (with_reducible refine r_iteT ?_)
  | (with_reducible refine r_iteNT ?_)
  | (with_reducible refine r_iteNF ?_)
  | (with_reducible refine r_iteF ?_)
  | (with_reducible refine r_next ?_)
  | (with_reducible refine r_drop ?_)
  | (with_reducible refine r_cont ?_)
  | (with_reducible refine r_brk ?_))
local macro_rules | `(tactic| walk_at "ty") => `(tactic| first
  | assumption
  | exact .base (.int _)
  | exact .base (.str _)
  | exact .base (.bl _)
  | exact .base .non
  | exact .byt _
  | exact .base (.lst (by walk_at "lk"))
  | exact .base (.tup (by walk_at "lk")))
local macro_rules | `(tactic| walk_at "rd2") => `(tactic| first
  | walk_at "rd1"
  | ((with_reducible refine' r_isi true ?ht ?hk ?_); (case ht => walk_at "ty"); (case hk => first | assumption | decide +kernel))
  | ((with_reducible refine' r_isi false ?ht ?hk ?_); (case ht => walk_at "ty"); (case hk => first | assumption | decide +kernel))
  | ((with_reducible refine' r_isiT2 true true ?hT ?ht ?hk ?hk2 ?_); (case hT => walk_at "lk"); (case ht => walk_at "ty"); (case hk => decide +kernel); (case hk2 => decide +kernel))
  | ((with_reducible refine' r_isiT2 true false ?hT ?ht ?hk ?hk2 ?_); (case hT => walk_at "lk"); (case ht => walk_at "ty"); (case hk => decide +kernel); (case hk2 => decide +kernel))
  | ((with_reducible refine' r_isiT2 false true ?hT ?ht ?hk ?hk2 ?_); (case hT => walk_at "lk"); (case ht => walk_at "ty"); (case hk => decide +kernel); (case hk2 => decide +kernel))
  | ((with_reducible refine' r_isiT2 false false ?hT ?ht ?hk ?hk2 ?_); (case hT => walk_at "lk"); (case ht => walk_at "ty"); (case hk => decide +kernel); (case hk2 => decide +kernel))
  | (with_reducible refine r_iteNT ?_)
  | ((show (if (!true) = true then _ else _)); refine r_iteNT ?_)
  | (with_reducible refine r_r1 ?_)
  | (with_reducible refine r_maks ?_)
  | (with_reducible refine r_sfld ?_)
  | ((with_reducible refine' r_sfldE ?h1 ?h2 ?h3 ?h4 ?_); (case h1 => walk_at "lk"); (case h2 => assumption); (case h3 => assumption); (case h4 => exact (show _ + 1 ≤ 1000 from Nat.le_of_ble_eq_true rfl)))
  | (with_reducible refine r_fld ?_)
  | (with_reducible refine r_join ?_)
  | (with_reducible refine r_jcons ?_)
  | (with_reducible refine r_jnil ?_)
  | ((with_reducible refine r_rLenY ?hz ?_); (case hz => first | assumption | (refine Nat.le_trans ?_ (by decide : 100000 ≤ sizeLine); omega)))
  | (with_reducible refine r_par ?_)
  | (with_reducible refine r_pair ?_)
  | (with_reducible refine r_par3 ?_)
  | (with_reducible refine r_trip ?_)
  | ((with_reducible refine' r_gtup ?h1 ?h2 ?_); (case h1 => first | assumption | exact SqT.of (by walk_at "lk")); (case h2 => exact rfl))
  | (with_reducible refine r_gcons ?_)
  | (with_reducible refine r_gnil ?_)
  | ((with_reducible refine' r_slL ?h1 ?_); (case h1 => first | assumption | exact SqL.of (by walk_at "lk")); (intro p hp))
  | (with_reducible refine r_iTup ?_)
  | ((with_reducible refine' r_tupE ?h1 ?_); (case h1 => first | assumption | exact SqT.of (by walk_at "lk")))
  | (with_reducible refine r_m1 ?_)
  | (with_reducible refine r_isZ ?_)
  | (with_reducible refine r_sl ?_)
  | (with_reducible refine r_noPart ?_)
  | (with_reducible refine r_part ?_)
  | (with_reducible refine r_partE ?_)
  | ((with_reducible refine r_slS ?hz ?_); (case hz => first | assumption | (refine Nat.le_trans ?_ (by decide : 100000 ≤ sizeLine); omega)))
  | ((with_reducible refine' r_inT ?h1 ?h2 ?h3 ?_); (case h1 => first | assumption | (exact SqT.of (by walk_at "lk"))); (case h2 => exact rfl); (case h3 => exact rfl))
  | ((with_reducible refine' r_inL ?h1 ?h2 ?h3 ?_); (case h1 => first | assumption | (exact SqL.of (by walk_at "lk"))); (case h2 => exact rfl); (case h3 => exact rfl))
  | (with_reducible refine r_lc ?_)
  | (with_reducible refine r_for ?_)
  | (with_reducible refine r_iStr ?_)
  | (with_reducible refine r_strE ?_)
  | (with_reducible refine r_iList ?_)
  | ((with_reducible refine' r_listE ?h1 ?_); (case h1 => first | assumption | exact SqL.of (by walk_at "lk")))
  | (with_reducible refine r_iRng1 ?_)
  | ((with_reducible refine' r_rngE ?h0 ?h1 ?_); (case h0 => first | omega | (split <;> omega)); (case h1 => first | omega | (split <;> omega))))
local macro_rules | `(tactic| walk_at "rd") => `(tactic| (repeat walk_at "rd2"))
local macro_rules | `(tactic| walk_at "st") => `(tactic| (repeat (first
  | (with_reducible refine r_gname ?_)
  | (with_reducible refine r_next ?_)
  | (with_reducible refine r_seq ?_)
  | (with_reducible refine r_asg ?_)
  | (with_reducible refine r_ret ?_)
  | (with_reducible refine r_for ?_)
  | (with_reducible refine r_iRng1 ?_)
  | (with_reducible refine r_iList ?_)
  | (with_reducible refine r_cons ?_)
  | (with_reducible refine r_par ?_)
  | (with_reducible refine r_par3 ?_))))
section
variable {P : Program} {w : World} {K : PySem.W.Frag} {mg : Str → Option Value} {base : Heap}
def spSource (K : PySem.W.Frag) : Sp := fun vs H Q _ => ∃ (a : Addr) (ns : List Int) (i : Nat), vs = [.ref a, .int (i : Int)] ∧ SqL K H a (ns.map V.int) ∧ ns.length ≤ 63 ∧ i ≤ 63 ∧ ∀ p H', H p = none → Same H H' → Src H' p → Q (.ref p) H'
theorem sp_source {a : Addr} {ns : List Int} {i : Nat} {H : Hp} {Q : VK} {E : XK} (hs : SqL K H a (ns.map V.int)) (hz : ns.length ≤ 63) (hi : i ≤ 63) (k : ∀ p H', H p = none → Same H H' → Src H' p → Q (.ref p) H') : spSource K ([.ref a, .int (i : Int)] ++ []) H Q E := ⟨a, ns, i, rfl, hs, hz, hi, k⟩
theorem ints_at {ns : List Int} {i : Nat} (h : i < ns.length) : (ns.map V.int)[i]? = some (.int ns[i]) := by rw [List.getElem?_map, List.getElem?_eq_getElem h]; rfl
theorem ok_source {f : Addr} {fd : FuncData} {k : Nat} (F : Fun K "_law_source" "_law_source" s__law_source f fd) (m1 : mg "len" = none) (m2 : mg "int" = none) (m3 : mg "abs" = none) (m4 : mg "min" = none) (m5 : mg "range" = none) :
    FnOk P w K mg base CX0 (k + 2) f fd ["_law_script", "_law_at"] (spSource K) := by
  refine F.ok sc__law_source (fun vs H Q E h => ?_) (fun cdv A outer s H vs Q E hr h => ?_)
  · obtain ⟨a, ns, i, rfl, _⟩ := h
    rfl
  · obtain ⟨a, ns, i, rfl, hS, hz, hi, q⟩ := h
    have hu := hu_of hr
    have nd := sc__law_source.nd
    have hml : (ns.map V.int).length = ns.length := List.length_map ..
    refine ⟨_, (pss_cons (ps_set (i := 2) nd rfl (Or.inl rfl) (pe_ifExp (pt_cmpR op_lt (pv 1) (pe_callB (call_lenK K) (by rfl) (by assumption) (by decide +kernel) (pa_cons (pv 0) pa_nil)) (nomark _)) (pe_ix (ix_listK K) (pv 0) (pv 1) (fun _ _ => rfl)) pe_int))
      (pss_cons (ps_set (i := 3) nd rfl (Or.inl rfl) (pe_ifExp (pt_cmpR op_ge (pe_callB call_rAbs (by rfl) (by assumption) (by decide +kernel) (pa_cons (pv 2) pa_nil)) (pe_op op_pow pe_int pe_int) (nomark _)) (pe_op op_mod (pe_callTy call_rInt1 (by rfl) (by assumption) (by decide +kernel) (pa_cons (pe_callB call_rAbs (by rfl) (by assumption) (by decide +kernel) (pa_cons (pv 2) pa_nil)) pa_nil)) (pe_op op_mulW (pe_op op_mulW (pe_op op_pow pe_int pe_int) (pe_op op_pow pe_int pe_int)) (pe_op op_pow pe_int pe_int))) pe_int))
      (pss_cons (ps_set (i := 4) nd rfl (Or.inl rfl) (pe_op op_mod (pe_callTy call_rInt1 (by rfl) (by assumption) (by decide +kernel) (pa_cons (pe_op op_add (pe_op op_add (pv 2) (pe_op op_mul pe_int (pv 1))) pe_int) pa_nil)) pe_int))
      (pss_cons (ps_for PassesOwn.never rfl (pi_range1 (by rfl) (by assumption) (pa_cons (pe_callB call_rMin2 (by rfl) (by assumption) (by decide +kernel) (pa_cons (pe_callB (call_lenK K) (by rfl) (by assumption) (by decide +kernel) (pa_cons (pv 0) pa_nil)) (pa_cons pe_int pa_nil))) pa_nil)) (pg_name (i := 5) nd rfl (Or.inl rfl))
        (pss_one (ps_set (i := 4) nd rfl (Or.inl rfl) (pe_op op_mod (pe_callTy call_rInt1 (by rfl) (by assumption) (by decide +kernel) (pa_cons (pe_op op_add (pe_op op_add (pe_op op_pow (pv 4) pe_int) (pe_op op_mod (pe_callTy call_rInt1 (by rfl) (by assumption) (by decide +kernel) (pa_cons (pe_ix (ix_listK K) (pv 0) (pv 5) (fun _ _ => rfl)) pa_nil)) pe_int)) (pe_op op_mul pe_int (pv 5))) pa_nil)) pe_int))))
      (pss_one (ps_ret (pe_lst (pa_cons (pv 3) (pa_cons (pv 4) (pa_cons pe_int pa_nil)))))))))), ?_⟩
    walk_at "rd"
    refine r_joinI (fun _ => True) (fun cell _ => ?_) (fun Q' k h1 => ?_) (fun Q' k h1 => ?_)
    · walk_at "rd"
      refine r_joinI (fun large => 0 ≤ large) (fun large hl => ?_) (fun Q' k h1 => ?_) (fun Q' k h1 => ?_)
      · walk_at "rd"
        refine for_it (walk_range (lo := 0) (n := (if (9 : Int) < ↑(ns.map V.int).length then 9 else ↑(ns.map V.int).length : Int).toNat)) (fun j σ H' => ∃ (mix : Int) (v : Option V), σ = [some (.ref a), some (.int (i : Int)), some (.int cell), some (.int large), some (.int mix), v] ∧ H' = H ∧ 0 ≤ mix ∧ mix < 2147483647) ?_ (fun _ _ _ _ _ => True.intro) ?_ ?_
        · exact ⟨_, _, rfl, rfl, Int.emod_nonneg _ (by decide), Int.emod_lt_of_pos _ (by decide)⟩
        · rintro j x σ Hc H' hj ⟨mix, v, rfl, rfl, hm0, hm1⟩ ⟨rfl, rfl⟩
          have hj' : j < ns.length := by rw [hml] at hj; split at hj <;> omega
          walk_at "rd"
          refine r_ixL hS (i := (0 : Int) + (j : Int)) (by rw [Int.zero_add]; exact atI_nat (ints_at hj')) ?_
          walk_at "rd"
          exact ⟨_, _, rfl, rfl, Int.emod_nonneg _ (by decide), Int.emod_lt_of_pos _ (by decide)⟩
        · rintro σ Hc ⟨mix, v, rfl, rfl, hm0, hm1⟩
          walk_at "rd"
          rename_i p hp
          exact q p _ hp (same_new hp) ⟨large, mix, 0, upd_same, hl, hm0, hm1⟩
      · walk_at "rd"
        refine k _ (Int.emod_nonneg _ ?_)
        decide +kernel
      · walk_at "rd"
        exact k _ (by decide)
    · have hi' : i < ns.length := by omega
      walk_at "rd"
      refine r_ixL hS (atI_nat (ints_at hi')) ?_
      exact k _ True.intro
    · walk_at "rd"
      exact k _ True.intro
end
end Th
namespace Th
open PySem PySem.Spec PyProof.Rows L2
local macro_rules | `(tactic| walk_at "lk") => `(tactic| first
  | assumption
  | exact upd_same
  | (refine upd_old (by assumption) ?_; walk_at "lk")
  | (refine upd_diff (by assumption) ?_; walk_at "lk")
  | (refine upd_diff (Ne.symm (by assumption)) ?_; walk_at "lk"))
local macro_rules | `(tactic| walk_at "cnd") => `(tactic| first
  | omega
  | (refine ⟨by omega, by omega⟩)
  | (refine ⟨by omega, by omega, by omega⟩)
  | (refine .inl ⟨by omega, by omega⟩)
  | (refine .inr ⟨by omega, by omega⟩)
  | (exact (show CPow _ _ from ⟨by decide, by decide, by omega⟩))
  | decide +kernel
  | (unfold CMulW; decide +kernel)
  | (exact wide_div (b := 64) (by omega) (by omega) (by decide) (by decide)))
local macro_rules | `(tactic| walk_at "rd1") => `(tactic| first
  | (with_reducible refine r_seq ?_)
  | (with_reducible refine r_asg ?_)
  | (with_reducible refine r_ret ?_)
  | (with_reducible refine r_if ?_)
  | (with_reducible refine r_gname ?_)
  | ((with_reducible refine' r_var ?hv ?_); (case hv => exact rfl))
  | (with_reducible refine r_c ?_)
  | (with_reducible refine r_op ?_)
  | (with_reducible refine r_I0 ?_)
  | ((with_reducible refine r_I ?hc ?_); (case hc => walk_at "cnd"))
  | (with_reducible refine r_test ?_)
  | (with_reducible refine r_tB ?_)
  | (with_reducible refine r_bl ?_)
  | (with_reducible refine r_not ?_)
  | (with_reducible refine r_and ?_)
  | (with_reducible refine r_or ?_)
  | (with_reducible refine r_ifE ?_)
  | (with_reducible refine r_notV ?_)
  | (with_reducible refine r_andV ?_)
  | (with_reducible refine r_orV ?_)
  | (with_reducible refine r_chain ?_)
  | (with_reducible refine r_cb ?_)
  | (with_reducible refine r_call ?_)
  | (with_reducible refine r_callN ?_)
  | (with_reducible refine r_nil ?_)
  | (with_reducible refine r_cons ?_)
  | ((with_reducible refine r_lst ?_))
  | ((with_reducible refine r_tup ?_))
  | ((with_reducible refine r_new ?_ ?_); (exact Nat.le_of_ble_eq_true rfl); (intro p hp))
  | (with_reducible refine r_rInt1 ?_)
  | (with_reducible refine r_rIntB ?_)
  | (with_reducible refine r_rAbs ?_)
  | (with_reducible refine r_rMin2 ?_)
  | (with_reducible refine r_rMax2 ?_)
  | ((with_reducible refine r_rLenZ ?hz ?_); (case hz => first | assumption | exact Nat.le_of_ble_eq_true rfl | (refine Nat.le_trans ?_ (by decide : 100000 ≤ sizeLine); omega)))
  | ((with_reducible refine r_addZ ?hz ?_); (case hz => (refine Nat.le_trans ?_ (by decide : 100000 ≤ sizeLine); first | omega | (simp only [Str.length] at *; simp; omega))))
  | ((with_reducible refine r_mulZ ?hz ?h0 ?h1 ?_); (case hz => first | omega | exact Nat.le_of_ble_eq_true rfl); (case h0 => omega); (case h1 => omega))
  | ((with_reducible refine' r_rLenQ ?h1 ?_); (case h1 => first | (exact .inl (by assumption)) | (exact .inr (by assumption)) | (exact .inl (SqL.of (by walk_at "lk"))) | (exact .inr (SqT.of (by walk_at "lk")))))
  | ((with_reducible refine r_eq ?hs ?_); (case hs => exact rfl))
  | ((with_reducible refine r_ne ?hs ?_); (case hs => exact rfl))
  | (with_reducible refine r_inC ?_)
  | ((with_reducible refine' r_cat ?h1 ?h2 ?h3 ?_); (case h1 => walk_at "lk"); (case h2 => walk_at "lk"); (case h3 => exact Nat.le_of_ble_eq_true rfl); (intro p hp))
  | ((with_reducible refine' r_rep ?h1 ?h2 ?h3 ?h4 ?_); (case h1 => walk_at "lk"); (case h2 => omega); (case h3 => omega); (case h4 => exact Nat.le_of_ble_eq_true rfl); (intro p hp))
  | ((with_reducible refine' r_append ?h1 ?h2 ?_); (case h1 => walk_at "lk"); (case h2 => first | exact (show _ + 1 ≤ sizeLine from Nat.le_of_ble_eq_true rfl) | exact Nat.lt_of_le_of_lt (by omega : _ ≤ 100000) (by decide)))
  | (with_reducible refine r_bm ?_)
  | ((with_reducible refine' r_tyL ?h1 ?_); (case h1 => walk_at "lk"))
  | ((with_reducible refine' r_ixL ?h1 ?h2 ?_); (case h1 => first | assumption | exact SqL.of (by walk_at "lk")); (case h2 => exact rfl))
  | ((with_reducible refine' r_ixT ?h1 ?h2 ?_); (case h1 => first | assumption | exact SqT.of (by walk_at "lk")); (case h2 => exact rfl))
  | (with_reducible refine r_gsub ?_)
  | ((with_reducible refine' r_setL ?h1 ?h2 ?_); (case h1 => walk_at "lk"); (case h2 => exact rfl))
  | (with_reducible refine r_un ?_)
  | (with_reducible refine r_neg ?_)
  | (with_reducible refine r_iteT ?_)
  | (with_reducible refine r_iteNT ?_)
  | (with_reducible refine r_iteNF ?_)
  | (with_reducible refine r_iteF ?_)
  | (with_reducible refine r_next ?_)
  | (with_reducible refine r_drop ?_)
  | (with_reducible refine r_cont ?_)
  | (with_reducible refine r_brk ?_))
local macro_rules | `(tactic| walk_at "ty") => `(tactic| first
  | assumption
  | exact .base (.int _)
  | exact .base (.str _)
  | exact .base (.bl _)
  | exact .base .non
  | exact .byt _
  | exact .base (.lst (by walk_at "lk"))
  | exact .base (.tup (by walk_at "lk")))
local macro_rules | `(tactic| walk_at "rd2") => `(tactic| first
  | walk_at "rd1"
  | ((with_reducible refine' r_isi true ?ht ?hk ?_); (case ht => walk_at "ty"); (case hk => first | assumption | decide +kernel))
  | ((with_reducible refine' r_isi false ?ht ?hk ?_); (case ht => walk_at "ty"); (case hk => first | assumption | decide +kernel))
  | ((with_reducible refine' r_isiT2 true true ?hT ?ht ?hk ?hk2 ?_); (case hT => walk_at "lk"); (case ht => walk_at "ty"); (case hk => decide +kernel); (case hk2 => decide +kernel))
  | ((with_reducible refine' r_isiT2 true false ?hT ?ht ?hk ?hk2 ?_); (case hT => walk_at "lk"); (case ht => walk_at "ty"); (case hk => decide +kernel); (case hk2 => decide +kernel))
  | ((with_reducible refine' r_isiT2 false true ?hT ?ht ?hk ?hk2 ?_); (case hT => walk_at "lk"); (case ht => walk_at "ty"); (case hk => decide +kernel); (case hk2 => decide +kernel))
  | ((with_reducible refine' r_isiT2 false false ?hT ?ht ?hk ?hk2 ?_); (case hT => walk_at "lk"); (case ht => walk_at "ty"); (case hk => decide +kernel); (case hk2 => decide +kernel))
  | (with_reducible refine r_iteNT ?_)
  | ((show (if (!true) = true then _ else _)); refine r_iteNT ?_)
  | (with_reducible refine r_r1 ?_)
  | (with_reducible refine r_maks ?_)
  | (with_reducible refine r_sfld ?_)
  | ((with_reducible refine' r_sfldE ?h1 ?h2 ?h3 ?h4 ?_); (case h1 => walk_at "lk"); (case h2 => assumption); (case h3 => assumption); (case h4 => exact (show _ + 1 ≤ 1000 from Nat.le_of_ble_eq_true rfl)))
  | (with_reducible refine r_fld ?_)
  | (with_reducible refine r_join ?_)
  | (with_reducible refine r_jcons ?_)
  | (with_reducible refine r_jnil ?_)
  | ((with_reducible refine r_rLenY ?hz ?_); (case hz => first | assumption | (refine Nat.le_trans ?_ (by decide : 100000 ≤ sizeLine); omega)))
  | (with_reducible refine r_par ?_)
  | (with_reducible refine r_pair ?_)
  | (with_reducible refine r_par3 ?_)
  | (with_reducible refine r_trip ?_)
  | ((with_reducible refine' r_gtup ?h1 ?h2 ?_); (case h1 => first | assumption | exact SqT.of (by walk_at "lk")); (case h2 => exact rfl))
  | (with_reducible refine r_gcons ?_)
  | (with_reducible refine r_gnil ?_)
  | ((with_reducible refine' r_slL ?h1 ?_); (case h1 => first | assumption | exact SqL.of (by walk_at "lk")); (intro p hp))
  | (with_reducible refine r_iTup ?_)
  | ((with_reducible refine' r_tupE ?h1 ?_); (case h1 => first | assumption | exact SqT.of (by walk_at "lk")))
  | (with_reducible refine r_m1 ?_)
  | (with_reducible refine r_isZ ?_)
  | (with_reducible refine r_sl ?_)
  | (with_reducible refine r_noPart ?_)
  | (with_reducible refine r_part ?_)
  | (with_reducible refine r_partE ?_)
  | ((with_reducible refine r_slS ?hz ?_); (case hz => first | assumption | (refine Nat.le_trans ?_ (by decide : 100000 ≤ sizeLine); omega)))
  | ((with_reducible refine' r_inT ?h1 ?h2 ?h3 ?_); (case h1 => first | assumption | (exact SqT.of (by walk_at "lk"))); (case h2 => exact rfl); (case h3 => exact rfl))
  | ((with_reducible refine' r_inL ?h1 ?h2 ?h3 ?_); (case h1 => first | assumption | (exact SqL.of (by walk_at "lk"))); (case h2 => exact rfl); (case h3 => exact rfl))
  | (with_reducible refine r_lc ?_)
  | (with_reducible refine r_for ?_)
  | (with_reducible refine r_iStr ?_)
  | (with_reducible refine r_strE ?_)
  | (with_reducible refine r_iList ?_)
  | ((with_reducible refine' r_listE ?h1 ?_); (case h1 => first | assumption | exact SqL.of (by walk_at "lk")))
  | (with_reducible refine r_iRng1 ?_)
  | ((with_reducible refine' r_rngE ?h0 ?h1 ?_); (case h0 => first | omega | (split <;> omega)); (case h1 => first | omega | (split <;> omega))))
local macro_rules | `(tactic| walk_at "rd") => `(tactic| (repeat walk_at "rd2"))
local macro_rules | `(tactic| walk_at "st") => `(tactic| (repeat (first
  | (with_reducible refine r_gname ?_)
  | (with_reducible refine r_next ?_)
  | (with_reducible refine r_seq ?_)
  | (with_reducible refine r_asg ?_)
  | (with_reducible refine r_ret ?_)
  | (with_reducible refine r_for ?_)
  | (with_reducible refine r_iRng1 ?_)
  | (with_reducible refine r_iList ?_)
  | (with_reducible refine r_cons ?_)
  | (with_reducible refine r_par ?_)
  | (with_reducible refine r_par3 ?_))))
theorem But.refl (a : Addr) (H : Hp) : But a H H := fun _ _ _ e => e
theorem But.trans {a : Addr} {H H1 H2 : Hp} (x : But a H H1) (y : But a H1 H2) : But a H H2 := fun b o n e => y b o n (x b o n e)
theorem But.new {a p : Addr} {H H' : Hp} {o : HO} (hp : H p = none) (y : But a (upd H p o) H') : But a H H' := fun b u n e => y b u n (upd_old hp e)
theorem Same.but {a : Addr} {H H' : Hp} (e : Same H H') : But a H H' := fun b o _ h => e b o h
theorem Src.same {H H' : Hp} {a : Addr} (e : Same H H') (h : Src H a) : Src H' a := by
  obtain ⟨l, m, c, h1, h2⟩ := h
  exact ⟨l, m, c, e _ _ h1, h2⟩
theorem Src.new {H : Hp} {a p : Addr} {o : HO} (hp : H p = none) (h : Src H a) : Src (upd H p o) a := h.same (same_new hp)
theorem Src.ne {H : Hp} {a p : Addr} (h : Src H a) (hp : H p = none) : p ≠ a := by
  obtain ⟨l, m, c, h1, h2⟩ := h
  exact (ne_of_none h1 hp).symm
theorem pick_at {xs : List V} {d : Int} (h0 : 0 ≤ d) (h1 : d < (xs.length : Int)) : ∃ v, v ∈ xs ∧ atI xs d = some v := by
  have hd : d.toNat < xs.length := by omega
  refine ⟨xs[d.toNat], List.getElem_mem hd, ?_⟩
  have e : d = (d.toNat : Int) := by omega
  have h := atI_nat (List.getElem?_eq_getElem hd)
  rw [← e] at h
  exact h
section
variable {K : PySem.W.Frag} {σ : L2.St} {H : Hp} {Q : VK}
/-- one of a written list, drawn -/
theorem r_pick {a : Addr} {i : Nat} {n : Int} {ta : TA} (P : V → Prop) (hi : σ[i]? = some (some (.ref a))) (h0 : 0 < n) (h1 : n < 1000000)
    (hta : ∀ Q' : List V → Hp → Prop, (∀ xs H1, (xs.length : Int) = n → (∀ v ∈ xs, P v) → Src H1 a → But a H H1 → Q' xs H1) → ta σ H Q') (k : ∀ v H', P v → Src H' a → But a H H' → Q v H') :
    tOp (rIxL K) (tLst ta) (tCall spDraw [] E0 (tCons (tVar i) (tCons (tC (.int n)) tNil))) σ H Q := by
  refine r_op (r_lst (hta _ fun xs H1 hl hp hs hb => ?_))
  refine ⟨Nat.le_trans (by omega : xs.length ≤ 1000000) (by decide), fun p hp0 => ?_⟩
  refine r_call (r_cons (r_var hi (r_cons (r_c (r_nil ?_)))))
  refine sp_draw (hs.new hp0) h0 h1 (fun d H' d0 d1 hs' hb' => ?_)
  obtain ⟨v, hv, e⟩ := pick_at (xs := xs) d0 (by omega)
  exact r_ixL (SqL.of (hb' p _ (hs.ne hp0) upd_same)) e (k v H' (hp v hv) hs' (hb.trans (hb'.new hp0)))
/-- a sign of a written text, drawn -/
theorem r_pickS {a : Addr} {i : Nat} {z : Str} {n : Int} (hi : σ[i]? = some (some (.ref a))) (hn : (z.length : Int) = n) (h0 : 0 < n) (h1 : n < 1000000) (hs : Src H a) (k : ∀ c H', Src H' a → But a H H' → Q (.str ⟨#[c]⟩) H') :
    tOp rIxS (tC (.str z)) (tCall spDraw [] E0 (tCons (tVar i) (tCons (tC (.int n)) tNil))) σ H Q := by
  refine r_op (r_c (r_call (r_cons (r_var hi (r_cons (r_c (r_nil ?_)))))))
  refine sp_draw hs h0 h1 (fun d H' d0 d1 hs' hb' => ?_)
  have hz : z.cps.toList.length = z.length := by simp [Str.length]
  have hd : d.toNat < z.cps.toList.length := by omega
  have e : d = (d.toNat : Int) := by omega
  have h := atI_nat (List.getElem?_eq_getElem hd)
  rw [← e] at h
  exact r_ixS (Nat.le_trans (by omega : z.length ≤ 1000000) (by decide)) h (k _ H' hs' hb')
end
def shortS (m : Nat) (v : V) : Prop := ∃ z : Str, v = .str z ∧ z.length ≤ m
def shortB (m : Nat) : V → Bool
  | .str z => decide (z.length ≤ m)
  | _ => false
theorem short_all {m : Nat} {xs : List V} (h : xs.all (shortB m) = true) : ∀ v ∈ xs, shortS m v := fun v hv => by
  have h1 := List.all_eq_true.mp h v hv
  cases v with
  | str z => exact ⟨z, rfl, of_decide_eq_true h1⟩
  | _ => cases h1
def intIn (lo hi : Int) (v : V) : Prop := ∃ i : Int, v = .int i ∧ lo ≤ i ∧ i ≤ hi
def intB (lo hi : Int) : V → Bool
  | .int i => decide (lo ≤ i) && decide (i ≤ hi)
  | _ => false
theorem int_all {lo hi : Int} {xs : List V} (h : xs.all (intB lo hi) = true) : ∀ v ∈ xs, intIn lo hi v := fun v hv => by
  have h1 := List.all_eq_true.mp h v hv
  cases v with
  | int i =>
    have h2 : (decide (lo ≤ i) && decide (i ≤ hi)) = true := h1
    simp only [Bool.and_eq_true, decide_eq_true_eq] at h2
    exact ⟨i, rfl, h2.1, h2.2⟩
  | _ => cases h1
theorem len_add (x y : Str) : (x ++ y).length = x.length + y.length := by
  rw [← SX.S_tl x, ← SX.S_tl y, SX.S_cat, SX.S_len, SX.S_len, SX.S_len, List.length_append]
section
variable {P : Program} {w : World} {K : PySem.W.Frag} {mg : Str → Option Value} {base : Heap}
def spRName : Sp := fun vs H Q _ => ∃ (a : Addr) (n : Int), vs = [.ref a, .int n] ∧ Src H a ∧ 0 ≤ n ∧ n ≤ 300 ∧ ∀ (z : Str) H', (z.length : Int) ≤ 20 + n → Src H' a → But a H H' → Q (.str z) H'
theorem sp_rname {a : Addr} {n : Int} {H : Hp} {Q : VK} {E : XK} (h : Src H a) (h0 : 0 ≤ n) (h1 : n ≤ 300) (k : ∀ (z : Str) H', (z.length : Int) ≤ 20 + n → Src H' a → But a H H' → Q (.str z) H') : spRName ([.ref a, .int n] ++ []) H Q E := ⟨a, n, rfl, h, h0, h1, k⟩
theorem ok_rname {f : Addr} {fd : FuncData} {k : Nat} (F : Fun K "_law_random_name" "_law_random_name" s__law_random_name f fd) (m1 : mg "range" = none) (c_draw : CalT P w K mg base 2 "_law_draw" spDraw) :
    FnOk P w K mg base CX0 (k + 3) f fd ["_law_source_here", "_law_many"] spRName := by
  refine F.ok sc__law_random_name (fun vs H Q E h => ?_) (fun cdv A outer s H vs Q E hr h => ?_)
  · obtain ⟨a, n, rfl, _⟩ := h
    rfl
  · obtain ⟨a, n, rfl, hs, hn0, hn1, q⟩ := h
    have hu := hu_of hr
    have nd := sc__law_random_name.nd
    have one : Str.length "/" = 1 := by decide +kernel
    have oneq : Str.length "q" = 1 := by decide +kernel
    refine ⟨_, (pss_cons (ps_set (i := 2) nd rfl (Or.inl rfl) (pe_ix (ix_listK K) (pe_lst (pa_cons pe_str (pa_cons pe_str (pa_cons pe_str (pa_cons pe_str (pa_cons pe_str (pa_cons pe_str pa_nil))))))) (pe_cc c_draw hr (by omega) (by rfl) (pa_cons (pv 0) (pa_cons pe_int pa_nil))) (fun _ _ => rfl)))
      (pss_cons (ps_for PassesOwn.never rfl (pi_range1 (by rfl) (by assumption) (pa_cons (pe_ix (ix_listK K) (pe_lst (pa_cons pe_int (pa_cons pe_int (pa_cons pe_int (pa_cons pe_int pa_nil))))) (pe_cc c_draw hr (by omega) (by rfl) (pa_cons (pv 0) (pa_cons pe_int pa_nil))) (fun _ _ => rfl)) pa_nil)) (pg_name (i := 3) nd rfl (Or.inl rfl))
        (pss_one (ps_set (i := 2) nd rfl (Or.inl rfl) (pe_op op_addZ (pe_op op_addZ (pv 2) pe_str) (pe_ix (ix_listK K) (pe_lst (pa_cons pe_str (pa_cons pe_str (pa_cons pe_str (pa_cons pe_str (pa_cons pe_str (pa_cons pe_str pa_nil))))))) (pe_cc c_draw hr (by omega) (by rfl) (pa_cons (pv 0) (pa_cons pe_int pa_nil))) (fun _ _ => rfl))))))
      (pss_one (ps_ret (pe_op op_addZ (pv 2) (pe_op op_mulS pe_str (pv 1))))))), ?_⟩
    walk_at "st"
    refine r_pick (shortS 4) rfl (by decide) (by decide) (fun Q' h => ?_) ?_
    · walk_at "rd"
      exact h _ _ rfl (short_all (by decide +kernel)) hs (.refl _ _)
    · rintro v H1 ⟨z, rfl, hz⟩ hs1 hb1
      walk_at "st"
      refine r_pick (intIn 0 2) rfl (by decide) (by decide) (fun Q' h => ?_) ?_
      · walk_at "rd"
        exact h _ _ rfl (int_all (by decide +kernel)) hs1 (.refl _ _)
      · rintro v H2 ⟨j, rfl, hj0, hj1⟩ hs2 hb2
        walk_at "rd"
        refine for_it (walk_range (lo := 0) (n := j.toNat)) (fun i σ H' => ∃ (z : Str) (v : Option V), σ = [some (.ref a), some (.int n), some (.str z), v] ∧ Src H' a ∧ But a H H' ∧ z.length ≤ 4 + 5 * i) ?_ (fun _ _ _ _ _ => True.intro) ?_ ?_
        · exact ⟨_, _, rfl, hs2, hb1.trans hb2, hz⟩
        · rintro i x σ Hc H' hi ⟨y, v, rfl, hs3, hb3, hy⟩ ⟨rfl, rfl⟩
          walk_at "st"
          iterate 5 walk_at "rd2"
          refine r_pick (shortS 4) rfl (by decide) (by decide) (fun Q' h => ?_) ?_
          · walk_at "rd"
            exact h _ _ rfl (short_all (by decide +kernel)) hs3 (.refl _ _)
          · rintro v H4 ⟨u, rfl, hu4⟩ hs4 hb4
            have e1 := len_add y "/"
            have e2 := len_add (y ++ "/") u
            walk_at "rd"
            exact ⟨_, _, rfl, hs4, hb3.trans hb4, by omega⟩
        · rintro σ Hc ⟨y, v, rfl, hs3, hb3, hy⟩
          have e1 : (repZ "q" n).length = n.toNat := by rw [repZ_len, oneq, Nat.mul_one]
          have e2 := len_add y (repZ "q" n)
          walk_at "rd"
          refine q _ _ ?_ hs3 hb3
          omega
theorem sizes : ∀ v ∈ ([.int 99, .int 100] : List V), True := fun _ _ => True.intro
def spAName : Sp := fun vs H Q _ => ∃ (a : Addr), vs = [.ref a] ∧ Src H a ∧ ∀ (z : Str) H', z.length ≤ 300 → Src H' a → But a H H' → Q (.str z) H'
theorem sp_aname {a : Addr} {H : Hp} {Q : VK} {E : XK} (h : Src H a) (k : ∀ (z : Str) H', z.length ≤ 300 → Src H' a → But a H H' → Q (.str z) H') : spAName ([.ref a] ++ []) H Q E := ⟨a, rfl, h, k⟩
theorem ok_aname {f : Addr} {fd : FuncData} {k : Nat} (F : Fun K "_law_any_name" "_law_any_name" s__law_any_name f fd) (m1 : mg "len" = none) (c_draw : CalT P w K mg base 2 "_law_draw" spDraw) (c_rname : CalT P w K mg base 3 "_law_random_name" spRName) :
    FnOk P w K mg base CX0 (k + 4) f fd ["_law_source_here"] spAName := by
  refine F.ok sc__law_any_name (fun vs H Q E h => ?_) (fun cdv A outer s H vs Q E hr h => ?_)
  · obtain ⟨a, rfl, _⟩ := h
    rfl
  · obtain ⟨a, rfl, hs, q⟩ := h
    have hu := hu_of hr
    have nd := sc__law_any_name.nd
    refine ⟨_, (pss_cons (ps_set (i := 1) nd rfl (Or.inl rfl) (pe_cc c_draw hr (by omega) (by rfl) (pa_cons (pv 0) (pa_cons pe_int pa_nil))))
      (pss_cons (ps_if (pt_cmpR op_lt (pv 1) pe_int (nomark _))
        (pss_one (ps_ret (pe_cc c_rname hr (by omega) (by rfl) (pa_cons (pv 0) (pa_cons pe_int pa_nil)))))
        pss_nil)
      (pss_cons (ps_if (pt_cmpR op_lt (pv 1) pe_int (nomark _))
        (pss_cons (ps_set (i := 2) nd rfl (Or.inl rfl) (pe_ix (ix_listK K) (pe_lst (pa_cons pe_int (pa_cons pe_int (pa_cons pe_int (pa_cons pe_int (pa_cons pe_int (pa_cons pe_int (pa_cons (pe_op op_add pe_int (pe_cc c_draw hr (by omega) (by rfl) (pa_cons (pv 0) (pa_cons pe_int pa_nil)))) pa_nil)))))))) (pe_cc c_draw hr (by omega) (by rfl) (pa_cons (pv 0) (pa_cons pe_int pa_nil))) (fun _ _ => rfl)))
      (pss_cons (ps_set (i := 3) nd rfl (Or.inl rfl) (pe_cc c_rname hr (by omega) (by rfl) (pa_cons (pv 0) (pa_cons pe_int pa_nil))))
      (pss_one (ps_ret (pe_op op_addZ (pv 3) (pe_op op_mulS (pe_ix ix_str pe_str (pe_cc c_draw hr (by omega) (by rfl) (pa_cons (pv 0) (pa_cons pe_int pa_nil))) (fun _ _ => rfl)) (pe_op op_sub (pv 2) (pe_callB call_rLenZ (by rfl) (by assumption) (by decide +kernel) (pa_cons (pv 3) pa_nil)))))))))
        pss_nil)
      (pss_one (ps_ret (pe_ix (ix_listK K) (pe_lst (pa_cons pe_str (pa_cons pe_str (pa_cons pe_str (pa_cons pe_str (pa_cons pe_str (pa_cons pe_str (pa_cons pe_str (pa_cons pe_str pa_nil))))))))) (pe_cc c_draw hr (by omega) (by rfl) (pa_cons (pv 0) (pa_cons pe_int pa_nil))) (fun _ _ => rfl))))))), ?_⟩
    walk_at "rd"
    refine sp_draw hs (by decide) (by decide) (fun way H1 w0 w1 hs1 hb1 => ?_)
    walk_at "rd"
    refine r_iteD (fun hw => ?_) (fun hw => ?_)
    · walk_at "rd"
      refine sp_rname hs1 (by decide) (by decide) (fun z H2 hz hs2 hb2 => ?_)
      exact q z H2 (by omega) hs2 (hb1.trans hb2)
    · walk_at "rd"
      refine r_iteD (fun hw2 => ?_) (fun hw2 => ?_)
      · walk_at "st"
        refine r_pick (intIn 99 250) rfl (by decide) (by decide) (fun Q' h => ?_) ?_
        · walk_at "rd"
          refine sp_draw hs1 (by decide) (by decide) (fun d H2 d0 d1 hs2 hb2 => ?_)
          walk_at "rd"
          refine h _ _ rfl ?_ hs2 hb2
          intro v hv
          simp only [List.mem_cons, List.not_mem_nil, or_false] at hv
          rcases hv with rfl | rfl | rfl | rfl | rfl | rfl | rfl
          all_goals exact ⟨_, rfl, by omega, by omega⟩
        · rintro v H2 ⟨size, rfl, z0, z1⟩ hs2 hb2
          walk_at "rd"
          refine sp_rname hs2 (by decide) (by decide) (fun z H3 hz hs3 hb3 => ?_)
          walk_at "st"
          iterate 3 walk_at "rd2"
          refine r_pickS rfl (by decide +kernel) (by decide) (by decide) hs3 (fun c H4 hs4 hb4 => ?_)
          have onec : Str.length ⟨#[c]⟩ = 1 := rfl
          have e1 : (repZ ⟨#[c]⟩ (size - z.length)).length = (size - z.length).toNat := by rw [repZ_len, onec, Nat.mul_one]
          have e2 := len_add z (repZ ⟨#[c]⟩ (size - z.length))
          walk_at "rd"
          exact q _ H4 (by omega) hs4 (((hb1.trans hb2).trans hb3).trans hb4)
      · walk_at "st"
        refine r_pick (shortS 6) rfl (by decide) (by decide) (fun Q' h => ?_) ?_
        · walk_at "rd"
          exact h _ _ rfl (short_all (by decide +kernel)) hs1 (.refl _ _)
        · rintro v H2 ⟨z, rfl, hz⟩ hs2 hb2
          exact q z H2 (by omega) hs2 (hb1.trans hb2)
end
end Th
namespace Th
open PySem PySem.Spec PyProof.Rows L2
local macro_rules | `(tactic| walk_at "lk") => `(tactic| first
  | assumption
  | exact upd_same
  | (refine upd_old (by assumption) ?_; walk_at "lk")
  | (refine upd_diff (by assumption) ?_; walk_at "lk")
  | (refine upd_diff (Ne.symm (by assumption)) ?_; walk_at "lk"))
local macro_rules | `(tactic| walk_at "cnd") => `(tactic| first
  | omega
  | (refine ⟨by omega, by omega⟩)
  | (refine ⟨by omega, by omega, by omega⟩)
  | (refine .inl ⟨by omega, by omega⟩)
  | (refine .inr ⟨by omega, by omega⟩)
  | (exact (show CPow _ _ from ⟨by decide, by decide, by omega⟩))
  | decide +kernel
  | (unfold CMulW; decide +kernel)
  | (exact wide_div (b := 64) (by omega) (by omega) (by decide) (by decide)))
local macro_rules | `(tactic| walk_at "rd1") => `(tactic| first
  | (with_reducible refine r_seq ?_)
  | (with_reducible refine r_asg ?_)
  | (with_reducible refine r_ret ?_)
  | (with_reducible refine r_if ?_)
  | (with_reducible refine r_gname ?_)
  | ((with_reducible refine' r_var ?hv ?_); (case hv => exact rfl))
  | (with_reducible refine r_c ?_)
  | (with_reducible refine r_op ?_)
  | (with_reducible refine r_I0 ?_)
  | ((with_reducible refine r_I ?hc ?_); (case hc => walk_at "cnd"))
  | (with_reducible refine r_test ?_)
  | (with_reducible refine r_tB ?_)
  | (with_reducible refine r_bl ?_)
  | (with_reducible refine r_not ?_)
  | (with_reducible refine r_and ?_)
  | (with_reducible refine r_or ?_)
  | (with_reducible refine r_ifE ?_)
  | (with_reducible refine r_notV ?_)
  | (with_reducible refine r_andV ?_)
  | (with_reducible refine r_orV ?_)
  | (with_reducible refine r_chain ?_)
  | (with_reducible refine r_cb ?_)
  | (with_reducible refine r_call ?_)
  | (with_reducible refine r_callN ?_)
  | (with_reducible refine r_nil ?_)
  | (with_reducible refine r_cons ?_)
  | ((with_reducible refine r_lst ?_))
  | ((with_reducible refine r_tup ?_))
  | ((with_reducible refine r_new ?_ ?_); (exact Nat.le_of_ble_eq_true rfl); (intro p hp))
  | (with_reducible refine r_rInt1 ?_)
  | (with_reducible refine r_rIntB ?_)
  | (with_reducible refine r_rAbs ?_)
  | (with_reducible refine r_rMin2 ?_)
  | (with_reducible refine r_rMax2 ?_)
  | ((with_reducible refine r_rLenZ ?hz ?_); (case hz => first | assumption | exact Nat.le_of_ble_eq_true rfl | (refine Nat.le_trans ?_ (by decide : 100000 ≤ sizeLine); omega)))
  | ((with_reducible refine r_addZ ?hz ?_); (case hz => (refine Nat.le_trans ?_ (by decide : 100000 ≤ sizeLine); first | omega | (simp only [Str.length] at *; simp; omega))))
  | ((with_reducible refine r_mulZ ?hz ?h0 ?h1 ?_); (case hz => first | omega | exact Nat.le_of_ble_eq_true rfl); (case h0 => omega); (case h1 => omega))
  | ((with_reducible refine' r_rLenQ ?h1 ?_); (case h1 => first | (exact .inl (by assumption)) | (exact .inr (by assumption)) | (exact .inl (SqL.of (by walk_at "lk"))) | (exact .inr (SqT.of (by walk_at "lk")))))
  | ((with_reducible refine r_eq ?hs ?_); (case hs => exact rfl))
  | ((with_reducible refine r_ne ?hs ?_); (case hs => exact rfl))
  | (with_reducible refine r_inC ?_)
  | ((with_reducible refine' r_cat ?h1 ?h2 ?h3 ?_); (case h1 => walk_at "lk"); (case h2 => walk_at "lk"); (case h3 => exact Nat.le_of_ble_eq_true rfl); (intro p hp))
  | ((with_reducible refine' r_rep ?h1 ?h2 ?h3 ?h4 ?_); (case h1 => walk_at "lk"); (case h2 => omega); (case h3 => omega); (case h4 => exact Nat.le_of_ble_eq_true rfl); (intro p hp))
  | ((with_reducible refine' r_append ?h1 ?h2 ?_); (case h1 => walk_at "lk"); (case h2 => first | exact (show _ + 1 ≤ sizeLine from Nat.le_of_ble_eq_true rfl) | exact Nat.lt_of_le_of_lt (by omega : _ ≤ 100000) (by decide)))
  | (with_reducible refine r_bm ?_)
  | ((with_reducible refine' r_tyL ?h1 ?_); (case h1 => walk_at "lk"))
  | ((with_reducible refine' r_ixL ?h1 ?h2 ?_); (case h1 => first | assumption | exact SqL.of (by walk_at "lk")); (case h2 => exact rfl))
  | ((with_reducible refine' r_ixT ?h1 ?h2 ?_); (case h1 => first | assumption | exact SqT.of (by walk_at "lk")); (case h2 => exact rfl))
  | (with_reducible refine r_gsub ?_)
  | ((with_reducible refine' r_setL ?h1 ?h2 ?_); (case h1 => walk_at "lk"); (case h2 => exact rfl))
  | (with_reducible refine r_un ?_)
  | (with_reducible refine r_neg ?_)
  | (with_reducible refine r_iteT ?_)
  | (with_reducible refine r_iteNT ?_)
  | (with_reducible refine r_iteNF ?_)
  | (with_reducible refine r_iteF ?_)
  | (with_reducible refine r_next ?_)
  | (with_reducible refine r_drop ?_)
  | (with_reducible refine r_cont ?_)
  | (with_reducible refine r_brk ?_))
local macro_rules | `(tactic| walk_at "ty") => `(tactic| first
  | assumption
  | exact .base (.int _)
  | exact .base (.str _)
  | exact .base (.bl _)
  | exact .base .non
  | exact .byt _
  | exact .base (.lst (by walk_at "lk"))
  | exact .base (.tup (by walk_at "lk")))
local macro_rules | `(tactic| walk_at "rd2") => `(tactic| first
  | walk_at "rd1"
  | ((with_reducible refine' r_isi true ?ht ?hk ?_); (case ht => walk_at "ty"); (case hk => first | assumption | decide +kernel))
  | ((with_reducible refine' r_isi false ?ht ?hk ?_); (case ht => walk_at "ty"); (case hk => first | assumption | decide +kernel))
  | ((with_reducible refine' r_isiT2 true true ?hT ?ht ?hk ?hk2 ?_); (case hT => walk_at "lk"); (case ht => walk_at "ty"); (case hk => decide +kernel); (case hk2 => decide +kernel))
  | ((with_reducible refine' r_isiT2 true false ?hT ?ht ?hk ?hk2 ?_); (case hT => walk_at "lk"); (case ht => walk_at "ty"); (case hk => decide +kernel); (case hk2 => decide +kernel))
  | ((with_reducible refine' r_isiT2 false true ?hT ?ht ?hk ?hk2 ?_); (case hT => walk_at "lk"); (case ht => walk_at "ty"); (case hk => decide +kernel); (case hk2 => decide +kernel))
  | ((with_reducible refine' r_isiT2 false false ?hT ?ht ?hk ?hk2 ?_); (case hT => walk_at "lk"); (case ht => walk_at "ty"); (case hk => decide +kernel); (case hk2 => decide +kernel))
  | (with_reducible refine r_iteNT ?_)
  | ((show (if (!true) = true then _ else _)); refine r_iteNT ?_)
  | (with_reducible refine r_r1 ?_)
  | (with_reducible refine r_maks ?_)
  | (with_reducible refine r_sfld ?_)
  | ((with_reducible refine' r_sfldE ?h1 ?h2 ?h3 ?h4 ?_); (case h1 => walk_at "lk"); (case h2 => assumption); (case h3 => assumption); (case h4 => exact (show _ + 1 ≤ 1000 from Nat.le_of_ble_eq_true rfl)))
  | (with_reducible refine r_fld ?_)
  | (with_reducible refine r_join ?_)
  | (with_reducible refine r_jcons ?_)
  | (with_reducible refine r_jnil ?_)
  | ((with_reducible refine r_rLenY ?hz ?_); (case hz => first | assumption | (refine Nat.le_trans ?_ (by decide : 100000 ≤ sizeLine); omega)))
  | (with_reducible refine r_par ?_)
  | (with_reducible refine r_pair ?_)
  | (with_reducible refine r_par3 ?_)
  | (with_reducible refine r_trip ?_)
  | ((with_reducible refine' r_gtup ?h1 ?h2 ?_); (case h1 => first | assumption | exact SqT.of (by walk_at "lk")); (case h2 => exact rfl))
  | (with_reducible refine r_gcons ?_)
  | (with_reducible refine r_gnil ?_)
  | ((with_reducible refine' r_slL ?h1 ?_); (case h1 => first | assumption | exact SqL.of (by walk_at "lk")); (intro p hp))
  | (with_reducible refine r_iTup ?_)
  | ((with_reducible refine' r_tupE ?h1 ?_); (case h1 => first | assumption | exact SqT.of (by walk_at "lk")))
  | (with_reducible refine r_m1 ?_)
  | (with_reducible refine r_isZ ?_)
  | (with_reducible refine r_sl ?_)
  | (with_reducible refine r_noPart ?_)
  | (with_reducible refine r_part ?_)
  | (with_reducible refine r_partE ?_)
  | ((with_reducible refine r_slS ?hz ?_); (case hz => first | assumption | (refine Nat.le_trans ?_ (by decide : 100000 ≤ sizeLine); omega)))
  | ((with_reducible refine' r_inT ?h1 ?h2 ?h3 ?_); (case h1 => first | assumption | (exact SqT.of (by walk_at "lk"))); (case h2 => exact rfl); (case h3 => exact rfl))
  | ((with_reducible refine' r_inL ?h1 ?h2 ?h3 ?_); (case h1 => first | assumption | (exact SqL.of (by walk_at "lk"))); (case h2 => exact rfl); (case h3 => exact rfl))
  | (with_reducible refine r_lc ?_)
  | (with_reducible refine r_for ?_)
  | (with_reducible refine r_iStr ?_)
  | (with_reducible refine r_strE ?_)
  | (with_reducible refine r_iList ?_)
  | ((with_reducible refine' r_listE ?h1 ?_); (case h1 => first | assumption | exact SqL.of (by walk_at "lk")))
  | (with_reducible refine r_iRng1 ?_)
  | ((with_reducible refine' r_rngE ?h0 ?h1 ?_); (case h0 => first | omega | (split <;> omega)); (case h1 => first | omega | (split <;> omega))))
local macro_rules | `(tactic| walk_at "rd") => `(tactic| (repeat walk_at "rd2"))
local macro_rules | `(tactic| walk_at "st") => `(tactic| (repeat (first
  | (with_reducible refine r_gname ?_)
  | (with_reducible refine r_next ?_)
  | (with_reducible refine r_seq ?_)
  | (with_reducible refine r_asg ?_)
  | (with_reducible refine r_ret ?_)
  | (with_reducible refine r_for ?_)
  | (with_reducible refine r_iRng1 ?_)
  | (with_reducible refine r_iList ?_)
  | (with_reducible refine r_cons ?_)
  | (with_reducible refine r_par ?_)
  | (with_reducible refine r_par3 ?_))))
theorem pick_lst {H : Hp} {p : Addr} {xs : List V} {d n : Int} (hl : H p = some (.lst xs)) (hn : (xs.length : Int) = n) (h0 : 0 ≤ d) (h1 : d < n) : ∃ v, v ∈ xs ∧ atI xs d = some v := pick_at h0 (by omega)
theorem cut_len (z : Str) (lo hi : Option Int) : (cutS z lo hi).length ≤ z.length := cutS_length z lo hi
section
variable {P : Program} {w : World} {K : PySem.W.Frag} {mg : Str → Option Value} {base : Heap}
def spBent : Sp := fun vs H Q _ => ∃ (a : Addr) (z : Str), vs = [.ref a, .str z] ∧ Src H a ∧ z.length ≤ 1000 ∧ ∀ (y : Str) H', y.length ≤ 3 * z.length + 1 → Src H' a → But a H H' → Q (.str y) H'
theorem sp_bent {a : Addr} {z : Str} {H : Hp} {Q : VK} {E : XK} (h : Src H a) (hz : z.length ≤ 1000) (k : ∀ (y : Str) H', y.length ≤ 3 * z.length + 1 → Src H' a → But a H H' → Q (.str y) H') : spBent ([.ref a, .str z] ++ []) H Q E := ⟨a, z, rfl, h, hz, k⟩
theorem ok_bent {f : Addr} {fd : FuncData} {k : Nat} (F : Fun K "_law_bent" "_law_bent" s__law_bent f fd) (m1 : mg "len" = none) (c_draw : CalT P w K mg base 2 "_law_draw" spDraw) :
    FnOk P w K mg base CX0 (k + 3) f fd ["_law_source_here", "_law_text"] spBent := by
  refine F.ok sc__law_bent (fun vs H Q E h => ?_) (fun cdv A outer s H vs Q E hr h => ?_)
  · obtain ⟨a, z, rfl, _⟩ := h
    rfl
  · obtain ⟨a, z, rfl, hs, hz, q⟩ := h
    have hu := hu_of hr
    have nd := sc__law_bent.nd
    refine ⟨_, (pss_cons (ps_set (i := 2) nd rfl (Or.inl rfl) (pe_cc c_draw hr (by omega) (by rfl) (pa_cons (pv 0) (pa_cons (pe_op op_add (pe_callB call_rLenZ (by rfl) (by assumption) (by decide +kernel) (pa_cons (pv 1) pa_nil)) pe_int) pa_nil))))
      (pss_cons (ps_set (i := 3) nd rfl (Or.inl rfl) (pe_ix ix_str pe_str (pe_cc c_draw hr (by omega) (by rfl) (pa_cons (pv 0) (pa_cons pe_int pa_nil))) (fun _ _ => rfl)))
      (pss_cons (ps_set (i := 4) nd rfl (Or.inl rfl) (pe_lst (pa_cons (pe_op op_addZ (pe_slice sl_str (pv 1) po_none (po_some (pv 2))) (pe_slice sl_str (pv 1) (po_some (pe_op op_add (pv 2) pe_int)) po_none)) (pa_cons (pe_op op_addZ (pe_op op_addZ (pe_slice sl_str (pv 1) po_none (po_some (pv 2))) (pv 3)) (pe_slice sl_str (pv 1) (po_some (pv 2)) po_none)) (pa_cons (pe_op op_addZ (pe_op op_addZ (pe_slice sl_str (pv 1) po_none (po_some (pv 2))) (pv 3)) (pe_slice sl_str (pv 1) (po_some (pe_op op_add (pv 2) pe_int)) po_none)) pa_nil)))))
      (pss_cons (ps_expr (pe_bm PySem.F.plainAttrs_list PySem.F.slot_list_append PySem.F.type_list_append mt_append (pv 4) (pa_cons (pe_op op_addZ (pe_op op_addZ (pe_slice sl_str (pv 1) po_none (po_some (pv 2))) (pe_slice sl_str (pv 1) (po_some (pv 2)) (po_some (pe_op op_add (pv 2) pe_int)))) (pe_slice sl_str (pv 1) (po_some (pv 2)) po_none)) pa_nil)))
      (pss_one (ps_ret (pe_ix (ix_listK K) (pv 4) (pe_cc c_draw hr (by omega) (by rfl) (pa_cons (pv 0) (pa_cons pe_int pa_nil))) (fun _ _ => rfl)))))))), ?_⟩
    walk_at "rd"
    refine sp_draw hs (by omega) (by omega) (fun t H1 t0 t1 hs1 hb1 => ?_)
    walk_at "st"
    refine r_pickS rfl (by decide +kernel) (by decide) (by decide) hs1 (fun c H2 hs2 hb2 => ?_)
    have onec : Str.length ⟨#[c]⟩ = 1 := rfl
    have c1 := cut_len z none (some t)
    have c2 := cut_len z (some (t + 1)) none
    have c3 := cut_len z (some t) none
    have c4 := cut_len z (some t) (some (t + 1))
    have l1 := len_add (cutS z none (some t)) (cutS z (some (t + 1)) none)
    have l2 := len_add (cutS z none (some t)) ⟨#[c]⟩
    have l3 := len_add (cutS z none (some t) ++ ⟨#[c]⟩) (cutS z (some t) none)
    have l4 := len_add (cutS z none (some t) ++ ⟨#[c]⟩) (cutS z (some (t + 1)) none)
    have l5 := len_add (cutS z none (some t)) (cutS z (some t) (some (t + 1)))
    have l6 := len_add (cutS z none (some t) ++ cutS z (some t) (some (t + 1))) (cutS z (some t) none)
    walk_at "rd"
    rename_i p hp
    have hs3 := (hs2.same (same_new (o := HO.lst [V.str (cutS z none (some t) ++ cutS z (some (t + 1)) none), V.str (cutS z none (some t) ++ ⟨#[c]⟩ ++ cutS z (some t) none), V.str (cutS z none (some t) ++ ⟨#[c]⟩ ++ cutS z (some (t + 1)) none)]) hp))
    have np := hs2.ne hp
    refine sp_draw ?_ (by decide) (by decide) (fun d H4 d0 d1 hs4 hb4 => ?_)
    · obtain ⟨l, m, c', h1, h2⟩ := hs2
      exact ⟨l, m, c', by rw [upd_ne np.symm, upd_ne np.symm]; exact h1, h2⟩
    · have hl := hb4 p _ np upd_same
      obtain ⟨v, hv, e⟩ := pick_lst hl rfl d0 d1
      refine r_ixL (SqL.of hl) e ?_
      have hb : But a H H4 := by
        refine (hb1.trans hb2).trans (fun b o nb e => hb4 b o nb ?_)
        have nbp : b ≠ p := ne_of_none e hp
        rw [upd_ne nbp, upd_ne nbp]
        exact e
      simp only [List.cons_append, List.nil_append, List.mem_cons, List.not_mem_nil, or_false] at hv
      rcases hv with rfl | rfl | rfl | rfl
      all_goals exact q _ H4 (by omega) hs4 hb
end
end Th
namespace Th
open PySem PySem.Spec PyProof.Rows L2
local macro_rules | `(tactic| walk_at "lk") => `(tactic| first
  | assumption
  | exact upd_same
  | (refine upd_old (by assumption) ?_; walk_at "lk")
  | (refine upd_diff (by assumption) ?_; walk_at "lk")
  | (refine upd_diff (Ne.symm (by assumption)) ?_; walk_at "lk"))
local macro_rules | `(tactic| walk_at "cnd") => `(tactic| first
  | omega
  | (refine ⟨by omega, by omega⟩)
  | (refine ⟨by omega, by omega, by omega⟩)
  | (refine .inl ⟨by omega, by omega⟩)
  | (refine .inr ⟨by omega, by omega⟩)
  | (exact (show CPow _ _ from ⟨by decide, by decide, by omega⟩))
  | decide +kernel
  | (unfold CMulW; decide +kernel)
  | (exact wide_div (b := 64) (by omega) (by omega) (by decide) (by decide)))
local macro_rules | `(tactic| walk_at "rd1") => `(tactic| first
  | (with_reducible refine r_seq ?_)
  | (with_reducible refine r_asg ?_)
  | (with_reducible refine r_ret ?_)
  | (with_reducible refine r_if ?_)
  | (with_reducible refine r_gname ?_)
  | ((with_reducible refine' r_var ?hv ?_); (case hv => exact rfl))
  | (with_reducible refine r_c ?_)
  | (with_reducible refine r_op ?_)
  | (with_reducible refine r_I0 ?_)
  | ((with_reducible refine r_I ?hc ?_); (case hc => walk_at "cnd"))
  | (with_reducible refine r_test ?_)
  | (with_reducible refine r_tB ?_)
  | (with_reducible refine r_bl ?_)
  | (with_reducible refine r_not ?_)
  | (with_reducible refine r_and ?_)
  | (with_reducible refine r_or ?_)
  | (with_reducible refine r_ifE ?_)
  | (with_reducible refine r_notV ?_)
  | (with_reducible refine r_andV ?_)
  | (with_reducible refine r_orV ?_)
  | (with_reducible refine r_chain ?_)
  | (with_reducible refine r_cb ?_)
  | (with_reducible refine r_call ?_)
  | (with_reducible refine r_callN ?_)
  | (with_reducible refine r_nil ?_)
  | (with_reducible refine r_cons ?_)
  | ((with_reducible refine r_lst ?_))
  | ((with_reducible refine r_tup ?_))
  | ((with_reducible refine r_new ?_ ?_); (exact Nat.le_of_ble_eq_true rfl); (intro p hp))
  | (with_reducible refine r_rInt1 ?_)
  | (with_reducible refine r_rIntB ?_)
  | (with_reducible refine r_rAbs ?_)
  | (with_reducible refine r_rMin2 ?_)
  | (with_reducible refine r_rMax2 ?_)
  | ((with_reducible refine r_rLenZ ?hz ?_); (case hz => first | assumption | exact Nat.le_of_ble_eq_true rfl | (refine Nat.le_trans ?_ (by decide : 100000 ≤ sizeLine); omega)))
  | ((with_reducible refine r_addZ ?hz ?_); (case hz => (refine Nat.le_trans ?_ (by decide : 100000 ≤ sizeLine); first | omega | (simp only [Str.length] at *; simp; omega))))
  | ((with_reducible refine r_mulZ ?hz ?h0 ?h1 ?_); (case hz => first | omega | exact Nat.le_of_ble_eq_true rfl); (case h0 => omega); (case h1 => omega))
  | ((with_reducible refine' r_rLenQ ?h1 ?_); (case h1 => first | (exact .inl (by assumption)) | (exact .inr (by assumption)) | (exact .inl (SqL.of (by walk_at "lk"))) | (exact .inr (SqT.of (by walk_at "lk")))))
  | ((with_reducible refine r_eq ?hs ?_); (case hs => exact rfl))
  | ((with_reducible refine r_ne ?hs ?_); (case hs => exact rfl))
  | (with_reducible refine r_inC ?_)
  | ((with_reducible refine' r_cat ?h1 ?h2 ?h3 ?_); (case h1 => walk_at "lk"); (case h2 => walk_at "lk"); (case h3 => exact Nat.le_of_ble_eq_true rfl); (intro p hp))
  | ((with_reducible refine' r_rep ?h1 ?h2 ?h3 ?h4 ?_); (case h1 => walk_at "lk"); (case h2 => omega); (case h3 => omega); (case h4 => exact Nat.le_of_ble_eq_true rfl); (intro p hp))
  | ((with_reducible refine' r_append ?h1 ?h2 ?_); (case h1 => walk_at "lk"); (case h2 => first | exact (show _ + 1 ≤ sizeLine from Nat.le_of_ble_eq_true rfl) | exact Nat.lt_of_le_of_lt (by omega : _ ≤ 100000) (by decide)))
  | (with_reducible refine r_bm ?_)
  | ((with_reducible refine' r_tyL ?h1 ?_); (case h1 => walk_at "lk"))
  | ((with_reducible refine' r_ixL ?h1 ?h2 ?_); (case h1 => first | assumption | exact SqL.of (by walk_at "lk")); (case h2 => exact rfl))
  | ((with_reducible refine' r_ixT ?h1 ?h2 ?_); (case h1 => first | assumption | exact SqT.of (by walk_at "lk")); (case h2 => exact rfl))
  | (with_reducible refine r_gsub ?_)
  | ((with_reducible refine' r_setL ?h1 ?h2 ?_); (case h1 => walk_at "lk"); (case h2 => exact rfl))
  | (with_reducible refine r_un ?_)
  | (with_reducible refine r_neg ?_)
  | (with_reducible refine r_iteT ?_)
  | (with_reducible refine r_iteNT ?_)
  | (with_reducible refine r_iteNF ?_)
  | (with_reducible refine r_iteF ?_)
  | (with_reducible refine r_next ?_)
  | (with_reducible refine r_drop ?_)
  | (with_reducible refine r_cont ?_)
  | (with_reducible refine r_brk ?_))
local macro_rules | `(tactic| walk_at "ty") => `(tactic| first
  | assumption
  | exact .base (.int _)
  | exact .base (.str _)
  | exact .base (.bl _)
  | exact .base .non
  | exact .byt _
  | exact .base (.lst (by walk_at "lk"))
  | exact .base (.tup (by walk_at "lk")))
local macro_rules | `(tactic| walk_at "rd2") => `(tactic| first
  | walk_at "rd1"
  | ((with_reducible refine' r_isi true ?ht ?hk ?_); (case ht => walk_at "ty"); (case hk => first | assumption | decide +kernel))
  | ((with_reducible refine' r_isi false ?ht ?hk ?_); (case ht => walk_at "ty"); (case hk => first | assumption | decide +kernel))
  | ((with_reducible refine' r_isiT2 true true ?hT ?ht ?hk ?hk2 ?_); (case hT => walk_at "lk"); (case ht => walk_at "ty"); (case hk => decide +kernel); (case hk2 => decide +kernel))
  | ((with_reducible refine' r_isiT2 true false ?hT ?ht ?hk ?hk2 ?_); (case hT => walk_at "lk"); (case ht => walk_at "ty"); (case hk => decide +kernel); (case hk2 => decide +kernel))
  | ((with_reducible refine' r_isiT2 false true ?hT ?ht ?hk ?hk2 ?_); (case hT => walk_at "lk"); (case ht => walk_at "ty"); (case hk => decide +kernel); (case hk2 => decide +kernel))
  | ((with_reducible refine' r_isiT2 false false ?hT ?ht ?hk ?hk2 ?_); (case hT => walk_at "lk"); (case ht => walk_at "ty"); (case hk => decide +kernel); (case hk2 => decide +kernel))
  | (with_reducible refine r_iteNT ?_)
  | ((show (if (!true) = true then _ else _)); refine r_iteNT ?_)
  | (with_reducible refine r_r1 ?_)
  | (with_reducible refine r_maks ?_)
  | (with_reducible refine r_sfld ?_)
  | ((with_reducible refine' r_sfldE ?h1 ?h2 ?h3 ?h4 ?_); (case h1 => walk_at "lk"); (case h2 => assumption); (case h3 => assumption); (case h4 => exact (show _ + 1 ≤ 1000 from Nat.le_of_ble_eq_true rfl)))
  | (with_reducible refine r_fld ?_)
  | (with_reducible refine r_join ?_)
  | (with_reducible refine r_jcons ?_)
  | (with_reducible refine r_jnil ?_)
  | ((with_reducible refine r_rLenY ?hz ?_); (case hz => first | assumption | (refine Nat.le_trans ?_ (by decide : 100000 ≤ sizeLine); omega)))
  | (with_reducible refine r_par ?_)
  | (with_reducible refine r_pair ?_)
  | (with_reducible refine r_par3 ?_)
  | (with_reducible refine r_trip ?_)
  | ((with_reducible refine' r_gtup ?h1 ?h2 ?_); (case h1 => first | assumption | exact SqT.of (by walk_at "lk")); (case h2 => exact rfl))
  | (with_reducible refine r_gcons ?_)
  | (with_reducible refine r_gnil ?_)
  | ((with_reducible refine' r_slL ?h1 ?_); (case h1 => first | assumption | exact SqL.of (by walk_at "lk")); (intro p hp))
  | (with_reducible refine r_iTup ?_)
  | ((with_reducible refine' r_tupE ?h1 ?_); (case h1 => first | assumption | exact SqT.of (by walk_at "lk")))
  | (with_reducible refine r_m1 ?_)
  | (with_reducible refine r_isZ ?_)
  | (with_reducible refine r_sl ?_)
  | (with_reducible refine r_noPart ?_)
  | (with_reducible refine r_part ?_)
  | (with_reducible refine r_partE ?_)
  | ((with_reducible refine r_slS ?hz ?_); (case hz => first | assumption | (refine Nat.le_trans ?_ (by decide : 100000 ≤ sizeLine); omega)))
  | ((with_reducible refine' r_inT ?h1 ?h2 ?h3 ?_); (case h1 => first | assumption | (exact SqT.of (by walk_at "lk"))); (case h2 => exact rfl); (case h3 => exact rfl))
  | ((with_reducible refine' r_inL ?h1 ?h2 ?h3 ?_); (case h1 => first | assumption | (exact SqL.of (by walk_at "lk"))); (case h2 => exact rfl); (case h3 => exact rfl))
  | (with_reducible refine r_lc ?_)
  | (with_reducible refine r_for ?_)
  | (with_reducible refine r_iStr ?_)
  | (with_reducible refine r_strE ?_)
  | (with_reducible refine r_iList ?_)
  | ((with_reducible refine' r_listE ?h1 ?_); (case h1 => first | assumption | exact SqL.of (by walk_at "lk")))
  | (with_reducible refine r_iRng1 ?_)
  | ((with_reducible refine' r_rngE ?h0 ?h1 ?_); (case h0 => first | omega | (split <;> omega)); (case h1 => first | omega | (split <;> omega))))
local macro_rules | `(tactic| walk_at "rd") => `(tactic| (repeat walk_at "rd2"))
local macro_rules | `(tactic| walk_at "st") => `(tactic| (repeat (first
  | (with_reducible refine r_gname ?_)
  | (with_reducible refine r_next ?_)
  | (with_reducible refine r_seq ?_)
  | (with_reducible refine r_asg ?_)
  | (with_reducible refine r_ret ?_)
  | (with_reducible refine r_for ?_)
  | (with_reducible refine r_iRng1 ?_)
  | (with_reducible refine r_iList ?_)
  | (with_reducible refine r_cons ?_)
  | (with_reducible refine r_par ?_)
  | (with_reducible refine r_par3 ?_))))
theorem AnyS.but {K : PySem.W.Frag} {H H' : Hp} {x : V} {p : Addr} (e : But p H H') (n : x ≠ .ref p) (h : AnyS K H x) : AnyS K H' x := by
  rcases h with h | ⟨h, T, h1, h2⟩
  · exact .inl h
  · refine .inr ⟨h, T, ?_, h2⟩
    have ne : ∀ {a : Addr}, x = .ref a → a ≠ p := fun ex z => n (by rw [ex, z])
    cases h1 with
    | base b =>
      cases b with
      | non => exact .base .non
      | bl y => exact .base (.bl y)
      | int y => exact .base (.int y)
      | str y => exact .base (.str y)
      | flt y => exact .base (.flt y)
      | lst z => exact .base (.lst (e _ _ (ne rfl) z))
      | frz z => exact .base (.frz (e _ _ (ne rfl) z))
      | tup z => exact .base (.tup (e _ _ (ne rfl) z))
      | dK z => exact .base (.dK (e _ _ (ne rfl) z))
      | dT z => exact .base (.dT (e _ _ (ne rfl) z))
    | byt y => exact .byt y
    | set z => exact .set (e _ _ (ne rfl) z)
    | kList z c => exact .kList z c
    | kTuple z c => exact .kTuple z c
    | kDict z c => exact .kDict z c
    | fTuple z => exact .fTuple (e _ _ (ne rfl) z)
    | fDict z => exact .fDict (e _ _ (ne rfl) z)
theorem same_but {H0 H H' : Hp} {p : Addr} (s : Same H0 H) (hp : H0 p = none) (b : But p H H') : Same H0 H' := fun a o e => b a o (ne_of_none e hp) (s a o e)
/-- what the law shows of a value: two lists of two bools -/
def bb (b : Bool) : PyData := .list [.bool b, .bool b]
theorem bb_len (b : Bool) : (bb b).shown.length ≤ sizeLine := by cases b <;> decide +kernel
theorem bb_depth (b : Bool) : (bb b).depth < 60 := by cases b <;> decide +kernel
theorem Dp_bb {K : PySem.W.Frag} {H : Hp} {p : Addr} {b : Bool} (h : H p = some (.lst [.bl b, .bl b])) : Dp K H (.ref p) (bb b) := .lst (SqL.of h) (.cons (.bl b) (.cons (.bl b) .nil))
section
variable {P : Program} {w : World} {K : PySem.W.Frag} {mg : Str → Option Value} {base : Heap}
theorem sp_drawS {a : Addr} {n : Int} {H0 H : Hp} {Q : VK} {E : XK} (s : Same H0 H) (h : Src H0 a) (h0 : 0 < n) (h1 : n < 1000000) (k : Same H0 H → ∀ (d : Int) H', 0 ≤ d → d < n → Src H' a → But a H H' → Q (.int d) H') : spDraw ([.ref a, .int n] ++ []) H Q E := sp_draw (h.same s) h0 h1 (k s)
def spLaw (K : PySem.W.Frag) : Sp := fun vs H Q _ => ∃ (a : Addr) (ns : List Int), vs = [.ref a] ∧ SqL K H a (ns.map V.int) ∧ ns.length ≤ 63 ∧ ∀ H', Q (.bl true) H'
theorem ok_law {f : Addr} {fd : FuncData} (F : Fun K "law" "law" s_law f fd) (m1 : mg "range" = none) (m2 : mg "max" = none) (m3 : mg "min" = none) (m4 : mg "len" = none) (m5 : mg "repr" = none)
    (c_source : CalT P w K mg base 2 "_law_source" (spSource K)) (c_aname : CalT P w K mg base 4 "_law_any_name" spAName) (c_bent : CalT P w K mg base 3 "_law_bent" spBent) (c_draw : CalT P w K mg base 2 "_law_draw" spDraw)
    (c_blob : CalT P w K mg base 4 "blob" spBlob) (c_is_name : CalT P w K mg base 2 "is_name" (spName K)) (c_is_path : CalT P w K mg base 3 "is_path" (spPath K))
    (c_is_name_k : CalK P w K mg base 2 "is_name" ["thing"] (spName K)) (c_is_path_k : CalK P w K mg base 3 "is_path" ["thing"] (spPath K))
    (c_lname : CalT P w K mg base 2 "_law_is_name" (spName K)) (c_lpath : CalT P w K mg base 3 "_law_is_path" (spPath K)) : FnG P w K mg base 5 f fd ["_law_script"] (spLaw K) := by
  refine Fun.okG (k := 4) F sc_law (fun vs H Q E h => ?_) (fun cdv A outer s H vs Q E hr gd0 h => ?_)
  · obtain ⟨a, ns, rfl, _⟩ := h
    rfl
  · obtain ⟨a, ns, rfl, hS, hz, q⟩ := h
    have hu := hu_of hr
    have nd := sc_law.nd
    have hml : (ns.map V.int).length = ns.length := List.length_map ..
    have gd : (A.deeper (envOfC "law" (defScope s_law) s.heap.objs.size f cdv)).guards = some [] := gd0
    have hu64 : (A.deeper (envOfC "law" (defScope s_law) s.heap.objs.size f cdv)).units + 64 < cLine := by have := hr.un; omega
    have onex : Str.length "x" = 1 := by decide +kernel
    refine ⟨_, (pss_cons (ps_for PassesOwn.never rfl (pi_range1 (by rfl) (by assumption) (pa_cons (pe_callB call_rMax2 (by rfl) (by assumption) (by decide +kernel) (pa_cons pe_int (pa_cons (pe_callB call_rMin2 (by rfl) (by assumption) (by decide +kernel) (pa_cons pe_int (pa_cons (pe_callB (call_lenK K) (by rfl) (by assumption) (by decide +kernel) (pa_cons (pv 0) pa_nil)) pa_nil))) pa_nil))) pa_nil)) (pg_name (i := 1) nd rfl (Or.inl rfl))
        (pss_cons (ps_set (i := 2) nd rfl (Or.inl rfl) (pe_cc c_source hr (by omega) (by rfl) (pa_cons (pv 0) (pa_cons (pv 1) pa_nil))))
      (pss_one (ps_for PassesOwn.never rfl (pi_range1 (by rfl) (by assumption) (pa_cons pe_int pa_nil)) (pg_name (i := 3) nd rfl (Or.inl rfl))
        (pss_cons (ps_set (i := 4) nd rfl (Or.inl rfl) (pe_cc c_aname hr (by omega) (by rfl) (pa_cons (pv 2) pa_nil)))
      (pss_cons (ps_set (i := 5) nd rfl (Or.inl rfl) (pe_lst (pa_cons (pv 4) (pa_cons (pe_cc c_bent hr (by omega) (by rfl) (pa_cons (pv 2) (pa_cons (pv 4) pa_nil))) (pa_cons (pe_cc c_bent hr (by omega) (by rfl) (pa_cons (pv 2) (pa_cons (pe_cc c_bent hr (by omega) (by rfl) (pa_cons (pv 2) (pa_cons (pv 4) pa_nil))) pa_nil))) (pa_cons (pe_op op_addZ (pv 4) (pe_op op_mulS pe_str pe_int)) pa_nil))))))
      (pss_cons (ps_set (i := 6) nd rfl (Or.inl rfl) (pe_lst (pa_cons pe_non (pa_cons pe_int (pa_cons pe_bl (pa_cons (pe_lst (pa_cons (pv 4) pa_nil)) (pa_cons (pe_tup (pa_cons (pv 4) pa_nil)) (pa_cons pe_str (pa_cons pe_str (pa_cons pe_str (pa_cons pe_str (pa_cons pe_str (pa_cons pe_str (pa_cons pe_str (pa_cons (pe_cc c_blob hr (by omega) (by rfl) (pa_cons (pe_lst (pa_cons pe_int pa_nil)) pa_nil)) pa_nil)))))))))))))))
      (pss_cons (ps_set (i := 6) nd rfl (Or.inl rfl) (pe_op op_cat (pv 6) (pe_lst (pa_cons (pe_op op_mulS pe_str pe_int) (pa_cons pe_str pa_nil)))))
      (pss_one (ps_for PassesOwn.never rfl (pi_list (pe_op op_cat (pv 5) (pe_lst (pa_cons (pe_ix (ix_listK K) (pv 6) (pe_cc c_draw hr (by omega) (by rfl) (pa_cons (pv 2) (pa_cons pe_int pa_nil))) (fun _ _ => rfl)) pa_nil)))) (pg_name (i := 7) nd rfl (Or.inl rfl))
        (pss_cons (ps_set (i := 8) nd rfl (Or.inl rfl) (pe_lst (pa_cons (pe_cc c_is_name hr (by omega) (by rfl) (pa_cons (pv 7) pa_nil)) (pa_cons (pe_ck0 c_is_name_k hr (by omega) (by rfl) (pk_cons (pv 7) pk_nil)) pa_nil))))
      (pss_cons (ps_if (pt_cmpR op_ne (pe_callB (call_reprK K gd hu64) (by rfl) (by assumption) (by decide +kernel) (pa_cons (pv 8) pa_nil)) (pe_callB (call_reprK K gd hu64) (by rfl) (by assumption) (by decide +kernel) (pa_cons (pe_op op_rep (pe_lst (pa_cons (pe_cc c_lname hr (by omega) (by rfl) (pa_cons (pv 7) pa_nil)) pa_nil)) pe_int) pa_nil)) (nomark _))
        (pss_one (ps_ret pe_bl))
        pss_nil)
      (pss_cons (ps_set (i := 8) nd rfl (Or.inl rfl) (pe_lst (pa_cons (pe_cc c_is_path hr (by omega) (by rfl) (pa_cons (pv 7) pa_nil)) (pa_cons (pe_ck0 c_is_path_k hr (by omega) (by rfl) (pk_cons (pv 7) pk_nil)) pa_nil))))
      (pss_one (ps_if (pt_cmpR op_ne (pe_callB (call_reprK K gd hu64) (by rfl) (by assumption) (by decide +kernel) (pa_cons (pv 8) pa_nil)) (pe_callB (call_reprK K gd hu64) (by rfl) (by assumption) (by decide +kernel) (pa_cons (pe_op op_rep (pe_lst (pa_cons (pe_cc c_lpath hr (by omega) (by rfl) (pa_cons (pv 7) pa_nil)) pa_nil)) pe_int) pa_nil)) (nomark _))
        (pss_one (ps_ret pe_bl))
        pss_nil)))))))))))))))
      (pss_one (ps_ret pe_bl))), ?_⟩
    walk_at "rd"
    refine for_it (walk_range (lo := 0) (n := _)) (fun i σ H' => ∃ v1 v2 v3 v4 v5 v6 v7 v8 : Option V, σ = [some (.ref a), v1, v2, v3, v4, v5, v6, v7, v8] ∧ Same H H') ?_ (fun _ _ _ _ _ => True.intro) ?_ ?_
    · exact ⟨_, _, _, _, _, _, _, _, rfl, Same.refl _⟩
    · rintro i x σ Hc H' hi ⟨v1, v2, v3, v4, v5, v6, v7, v8, rfl, eH⟩ ⟨rfl, hx⟩
      simp only [Int.zero_add] at hx
      subst hx
      have hi4 : i ≤ 63 := by
        revert hi
        split
        · split <;> omega
        · omega
      walk_at "rd"
      refine sp_source (eH.seq hS) hz hi4 (fun p H1 hp e1 hs1 => ?_)
      have hp0 : H p = none := eH.free hp
      walk_at "rd"
      refine for_it (walk_range (lo := 0) (n := _)) (fun j σ H' => ∃ v3 v4 v5 v6 v7 v8 : Option V, σ = [some (.ref a), some (.int (i : Int)), some (.ref p), v3, v4, v5, v6, v7, v8] ∧ Src H' p ∧ Same H H') ?_ (fun _ _ _ _ _ => True.intro) ?_ ?_
      · exact ⟨_, _, _, _, _, _, rfl, hs1, eH.trans e1⟩
      · rintro j x σ Hc H' hj ⟨v3, v4, v5, v6, v7, v8, rfl, hs1, eH1⟩ ⟨rfl, hx⟩
        subst hx
        walk_at "rd"
        refine sp_aname hs1 (fun z H2 hz2 hs2 hb2 => ?_)
        walk_at "rd"
        refine sp_bent hs2 (by omega) (fun y1 H3 hy1 hs3 hb3 => ?_)
        walk_at "rd"
        refine sp_bent hs3 (by omega) (fun y2 H4 hy2 hs4 hb4 => ?_)
        walk_at "rd"
        refine sp_bent hs4 (by omega) (fun y3 H5 hy3 hs5 hb5 => ?_)
        have hrep : (repZ "x" 10).length = 10 := by rw [repZ_len, onex]; rfl
        have hlen := len_add z (repZ "x" 10)
        walk_at "rd"
        rename_i L hL A1 hA1 A2 hA2 A3 hA3
        refine sp_blob (ns := [97]) upd_same (by decide) (by decide +kernel) (fun H6 e6 => ?_)
        have s6 : Same H5 H6 := ((((same_new hL).trans (same_new hA1)).trans (same_new hA2)).trans (same_new hA3)).trans e6
        have gL := e6 _ _ (upd_old hA3 (upd_old hA2 (upd_old hA1 (upd_same (H := H5) (a := L) (o := .lst [V.str z, V.str y1, V.str y3, V.str (z ++ repZ "x" 10)])))))
        have gA1 : H6 A1 = some (.lst [.str z]) := e6 _ _ (upd_old hA3 (upd_old hA2 upd_same))
        have gA2 : H6 A2 = some (.tup [.str z]) := e6 _ _ (upd_old hA3 upd_same)
        have hs6 := hs5.same s6
        have eH6 : Same H H6 := (same_but (same_but (same_but (same_but eH1 hp0 hb2) hp0 hb3) hp0 hb4) hp0 hb5).trans s6
        clear s6 e6 hA3 hA2 hA1 hL hb5 hb4 hb3 hb2 hs5 hs4 hs3 hs2
        walk_at "rd"
        rename_i O1 hO1 O2 hO2 O3 hO3
        refine sp_drawS (((same_new hO1).trans (same_new hO2)).trans (same_new hO3)) hs6 (by decide) (by decide) (fun sx d H7 d0 d1 hs7 hb7 => ?_)
        have n3 : O3 ≠ p := hs6.ne (((same_new hO1).trans (same_new hO2)).free hO3)
        have hl7 := hb7 O3 _ n3 upd_same
        obtain ⟨v, hv, ev⟩ := pick_lst hl7 rfl d0 d1
        have nA : ∀ {b : Addr} {o : HO}, H6 b = some o → (∀ xs, o = .lst xs → xs.length ≤ 1) → b ≠ p := by
          intro b o hb ho e
          obtain ⟨l, m, c, h1, _⟩ := hs6
          rw [e, h1] at hb
          have := ho _ (Option.some.inj hb).symm
          simp at this
        have nL : L ≠ p := by
          intro e
          obtain ⟨l, m, c, h1, _⟩ := hs6
          rw [e, h1] at gL
          cases gL
        have gA1' : H7 A1 = some (.lst [.str z]) := hb7 _ _ (nA gA1 (fun xs e => by cases e; simp)) (sx _ _ gA1)
        have gA2' : H7 A2 = some (.tup [.str z]) := hb7 _ _ (nA gA2 (fun xs e => by cases e)) (sx _ _ gA2)
        have gL' := hb7 _ _ nL (sx _ _ gL)
        have eH7 : Same H H7 := same_but (eH6.trans sx) hp0 hb7
        have gv : AnyS K H7 v := by
          simp only [List.cons_append, List.nil_append, List.mem_cons, List.not_mem_nil, or_false] at hv
          rcases hv with rfl | rfl | rfl | rfl | rfl | rfl | rfl | rfl | rfl | rfl | rfl | rfl | rfl | rfl | rfl
          · exact .inr ⟨rfl, _, .base .non, by decide +kernel⟩
          · exact .inr ⟨rfl, _, .base (.int _), by decide +kernel⟩
          · exact .inr ⟨rfl, _, .base (.bl _), by decide +kernel⟩
          · exact .inr ⟨rfl, _, .base (.lst gA1'), by decide +kernel⟩
          · exact .inr ⟨rfl, _, .base (.tup gA2'), by decide +kernel⟩
          · exact .inl ⟨_, rfl, by decide +kernel⟩
          · exact .inl ⟨_, rfl, by decide +kernel⟩
          · exact .inl ⟨_, rfl, by decide +kernel⟩
          · exact .inl ⟨_, rfl, by decide +kernel⟩
          · exact .inl ⟨_, rfl, by decide +kernel⟩
          · exact .inl ⟨_, rfl, by decide +kernel⟩
          · exact .inl ⟨_, rfl, by decide +kernel⟩
          · exact .inr ⟨rfl, _, .byt _, by decide +kernel⟩
          · exact .inl ⟨_, rfl, by rw [repZ_len]; decide +kernel⟩
          · exact .inl ⟨_, rfl, by decide +kernel⟩
        refine r_ixL (SqL.of hl7) ev ?_
        clear hl7 sx hO1 hO2 hO3 hb7 gL gA1 gA2 nA hs6 eH6
        walk_at "rd"
        rename_i LB hLB LC hLC
        have eB := same_new (o := HO.lst [v]) hLB
        have eC := eB.trans (same_new (o := HO.lst ([V.str z, V.str y1, V.str y3, V.str (z ++ repZ "x" 10)] ++ [v])) hLC)
        have lenC : ([V.str z, V.str y1, V.str y3, V.str (z ++ repZ "x" 10)] ++ [v]).length = 5 := rfl
        have allG : ∀ g ∈ [V.str z, V.str y1, V.str y3, V.str (z ++ repZ "x" 10)] ++ [v], AnyS K (upd (upd H7 LB (HO.lst [v])) LC (HO.lst ([V.str z, V.str y1, V.str y3, V.str (z ++ repZ "x" 10)] ++ [v]))) g := by
          intro g hg
          simp only [List.cons_append, List.nil_append, List.mem_cons, List.not_mem_nil, or_false] at hg
          rcases hg with rfl | rfl | rfl | rfl | rfl
          · exact .inl ⟨_, rfl, by omega⟩
          · exact .inl ⟨_, rfl, by omega⟩
          · exact .inl ⟨_, rfl, by omega⟩
          · exact .inl ⟨_, rfl, by omega⟩
          · exact gv.same eC
        have hs8 := hs7.same eC
        have eH8 := eH7.trans eC
        have gC : (upd (upd H7 LB (HO.lst [v])) LC (HO.lst ([V.str z, V.str y1, V.str y3, V.str (z ++ repZ "x" 10)] ++ [v]))) LC = some (.lst ([V.str z, V.str y1, V.str y3, V.str (z ++ repZ "x" 10)] ++ [v])) := upd_same
        generalize (upd (upd H7 LB (HO.lst [v])) LC (HO.lst ([V.str z, V.str y1, V.str y3, V.str (z ++ repZ "x" 10)] ++ [v]))) = H8 at *
        generalize [V.str z, V.str y1, V.str y3, V.str (z ++ repZ "x" 10)] ++ [v] = gs at *
        refine for_it (walk_list (xs := gs)) (fun m σ H' => ∃ v7 v8 : Option V, σ = [some (.ref a), some (.int (i : Int)), some (.ref p), some (.int (0 + (j : Int))), some (.str z), some (.ref L), some (.ref O3), v7, v8] ∧ Same H8 H') ?_ (fun m σ H' _ ⟨_, _, _, e⟩ => SqL.of (e _ _ gC)) ?_ ?_
        · exact ⟨_, _, rfl, Same.refl _⟩
        · rintro m g σ Hc H' hm ⟨v7', v8', rfl, e8⟩ ⟨rfl, hg⟩
          have hgm : AnyS K H' g := (allG g (List.mem_of_getElem? hg)).same e8
          walk_at "rd"
          refine sp_name hgm (fun Ha ea => ?_)
          walk_at "rd"
          refine ⟨rfl, rfl, ?_⟩
          refine sp_name (hgm.same ea) (fun Hb eb => ?_)
          walk_at "rd"
          rename_i T hT
          have gT : (upd Hb T (HO.lst [V.bl (nameV g), V.bl (nameV g)])) T = some (.lst [.bl (nameV g), .bl (nameV g)]) := upd_same
          refine r_repr (Dp_bb gT) rfl rfl (bb_depth _) (bb_len _) ?_
          walk_at "rd"
          have ec := (ea.trans eb).trans (same_new (o := HO.lst [V.bl (nameV g), V.bl (nameV g)]) hT)
          refine sp_name (hgm.same ec) (fun Hd ed => ?_)
          walk_at "rd"
          rename_i U hU W hW
          have gW : (upd (upd Hd U (HO.lst [V.bl (nameV g)])) W (HO.lst [V.bl (nameV g), V.bl (nameV g)])) W = some (.lst [.bl (nameV g), .bl (nameV g)]) := upd_same
          refine r_repr (d := bb (nameV g)) (Dp_bb gW) rfl rfl (bb_depth _) (bb_len _) ?_
          walk_at "rd"
          refine r_iteN (fun h1 => absurd rfl (of_decide_eq_false h1)) (fun _ => ?_)
          have ee := (ec.trans ed).trans ((same_new (o := HO.lst [V.bl (nameV g)]) hU).trans (same_new (o := HO.lst [V.bl (nameV g), V.bl (nameV g)]) hW))
          have hgm2 := hgm.same ee
          have e82 := e8.trans ee
          clear gT gW ec ed ea eb hT hU hW
          walk_at "rd"
          refine sp_path hgm2 (fun Ha ea => ?_)
          walk_at "rd"
          refine ⟨rfl, rfl, ?_⟩
          refine sp_path (hgm2.same ea) (fun Hb eb => ?_)
          walk_at "rd"
          rename_i T' hT
          have gT : (upd Hb T' (HO.lst [V.bl (pathV g), V.bl (pathV g)])) T' = some (.lst [.bl (pathV g), .bl (pathV g)]) := upd_same
          refine r_repr (Dp_bb gT) rfl rfl (bb_depth _) (bb_len _) ?_
          walk_at "rd"
          have ec := (ea.trans eb).trans (same_new (o := HO.lst [V.bl (pathV g), V.bl (pathV g)]) hT)
          refine sp_path (hgm2.same ec) (fun Hd ed => ?_)
          walk_at "rd"
          rename_i U' hU W' hW
          have gW : (upd (upd Hd U' (HO.lst [V.bl (pathV g)])) W' (HO.lst [V.bl (pathV g), V.bl (pathV g)])) W' = some (.lst [.bl (pathV g), .bl (pathV g)]) := upd_same
          refine r_repr (d := bb (pathV g)) (Dp_bb gW) rfl rfl (bb_depth _) (bb_len _) ?_
          walk_at "rd"
          refine r_iteN (fun h1 => absurd rfl (of_decide_eq_false h1)) (fun _ => ?_)
          walk_at "rd"
          exact ⟨_, _, rfl, e82.trans ((ec.trans ed).trans ((same_new hU).trans (same_new hW)))⟩
        · rintro σ Hc ⟨v7', v8', rfl, e8⟩
          walk_at "rd"
          exact ⟨_, _, _, _, _, _, rfl, hs8.same e8, eH8.trans e8⟩
      · rintro σ Hc ⟨v3, v4, v5, v6, v7, v8, rfl, hs1, eH1⟩
        walk_at "rd"
        exact ⟨_, _, _, _, _, _, _, _, rfl, eH1⟩
    · rintro σ Hc ⟨v1, v2, v3, v4, v5, v6, v7, v8, rfl, eH⟩
      walk_at "rd"
      exact q _
end
end Th
namespace Th
open PySem PySem.Spec PyProof.Rows L2
local macro_rules | `(tactic| walk_at "lk") => `(tactic| first
  | assumption
  | exact upd_same
  | (refine upd_old (by assumption) ?_; walk_at "lk")
  | (refine upd_diff (by assumption) ?_; walk_at "lk")
  | (refine upd_diff (Ne.symm (by assumption)) ?_; walk_at "lk"))
local macro_rules | `(tactic| walk_at "cnd") => `(tactic| first
  | omega
  | (refine ⟨by omega, by omega⟩)
  | (refine ⟨by omega, by omega, by omega⟩)
  | (refine .inl ⟨by omega, by omega⟩)
  | (refine .inr ⟨by omega, by omega⟩)
  | (exact (show CPow _ _ from ⟨by decide, by decide, by omega⟩))
  | decide +kernel
  | (unfold CMulW; decide +kernel)
  | (exact wide_div (b := 64) (by omega) (by omega) (by decide) (by decide)))
local macro_rules | `(tactic| walk_at "rd1") => `(tactic| first
  | (with_reducible refine r_seq ?_)
  | (with_reducible refine r_asg ?_)
  | (with_reducible refine r_ret ?_)
  | (with_reducible refine r_if ?_)
  | (with_reducible refine r_gname ?_)
  | ((with_reducible refine' r_var ?hv ?_); (case hv => exact rfl))
  | (with_reducible refine r_c ?_)
  | (with_reducible refine r_op ?_)
  | (with_reducible refine r_I0 ?_)
  | ((with_reducible refine r_I ?hc ?_); (case hc => walk_at "cnd"))
  | (with_reducible refine r_test ?_)
  | (with_reducible refine r_tB ?_)
  | (with_reducible refine r_bl ?_)
  | (with_reducible refine r_not ?_)
  | (with_reducible refine r_and ?_)
  | (with_reducible refine r_or ?_)
  | (with_reducible refine r_ifE ?_)
  | (with_reducible refine r_notV ?_)
  | (with_reducible refine r_andV ?_)
  | (with_reducible refine r_orV ?_)
  | (with_reducible refine r_chain ?_)
  | (with_reducible refine r_cb ?_)
  | (with_reducible refine r_call ?_)
  | (with_reducible refine r_callN ?_)
  | (with_reducible refine r_nil ?_)
  | (with_reducible refine r_cons ?_)
  | ((with_reducible refine r_lst ?_))
  | ((with_reducible refine r_tup ?_))
  | ((with_reducible refine r_new ?_ ?_); (exact Nat.le_of_ble_eq_true rfl); (intro p hp))
  | (with_reducible refine r_rInt1 ?_)
  | (with_reducible refine r_rIntB ?_)
  | (with_reducible refine r_rAbs ?_)
  | (with_reducible refine r_rMin2 ?_)
  | (with_reducible refine r_rMax2 ?_)
  | ((with_reducible refine r_rLenZ ?hz ?_); (case hz => first | assumption | exact Nat.le_of_ble_eq_true rfl | (refine Nat.le_trans ?_ (by decide : 100000 ≤ sizeLine); omega)))
  | ((with_reducible refine r_addZ ?hz ?_); (case hz => (refine Nat.le_trans ?_ (by decide : 100000 ≤ sizeLine); first | omega | (simp only [Str.length] at *; simp; omega))))
  | ((with_reducible refine r_mulZ ?hz ?h0 ?h1 ?_); (case hz => first | omega | exact Nat.le_of_ble_eq_true rfl); (case h0 => omega); (case h1 => omega))
  | ((with_reducible refine' r_rLenQ ?h1 ?_); (case h1 => first | (exact .inl (by assumption)) | (exact .inr (by assumption)) | (exact .inl (SqL.of (by walk_at "lk"))) | (exact .inr (SqT.of (by walk_at "lk")))))
  | ((with_reducible refine r_eq ?hs ?_); (case hs => exact rfl))
  | ((with_reducible refine r_ne ?hs ?_); (case hs => exact rfl))
  | (with_reducible refine r_inC ?_)
  | ((with_reducible refine' r_cat ?h1 ?h2 ?h3 ?_); (case h1 => walk_at "lk"); (case h2 => walk_at "lk"); (case h3 => exact Nat.le_of_ble_eq_true rfl); (intro p hp))
  | ((with_reducible refine' r_rep ?h1 ?h2 ?h3 ?h4 ?_); (case h1 => walk_at "lk"); (case h2 => omega); (case h3 => omega); (case h4 => exact Nat.le_of_ble_eq_true rfl); (intro p hp))
  | ((with_reducible refine' r_append ?h1 ?h2 ?_); (case h1 => walk_at "lk"); (case h2 => first | exact (show _ + 1 ≤ sizeLine from Nat.le_of_ble_eq_true rfl) | exact Nat.lt_of_le_of_lt (by omega : _ ≤ 100000) (by decide)))
  | (with_reducible refine r_bm ?_)
  | ((with_reducible refine' r_tyL ?h1 ?_); (case h1 => walk_at "lk"))
  | ((with_reducible refine' r_ixL ?h1 ?h2 ?_); (case h1 => first | assumption | exact SqL.of (by walk_at "lk")); (case h2 => exact rfl))
  | ((with_reducible refine' r_ixT ?h1 ?h2 ?_); (case h1 => first | assumption | exact SqT.of (by walk_at "lk")); (case h2 => exact rfl))
  | (with_reducible refine r_gsub ?_)
  | ((with_reducible refine' r_setL ?h1 ?h2 ?_); (case h1 => walk_at "lk"); (case h2 => exact rfl))
  | (with_reducible refine r_un ?_)
  | (with_reducible refine r_neg ?_)
  | (with_reducible refine r_iteT ?_)
  | (with_reducible refine r_iteNT ?_)
  | (with_reducible refine r_iteNF ?_)
  | (with_reducible refine r_iteF ?_)
  | (with_reducible refine r_next ?_)
  | (with_reducible refine r_drop ?_)
  | (with_reducible refine r_cont ?_)
  | (with_reducible refine r_brk ?_))
local macro_rules | `(tactic| walk_at "ty") => `(tactic| first
  | assumption
  | exact .base (.int _)
  | exact .base (.str _)
  | exact .base (.bl _)
  | exact .base .non
  | exact .byt _
  | exact .base (.lst (by walk_at "lk"))
  | exact .base (.tup (by walk_at "lk")))
local macro_rules | `(tactic| walk_at "rd2") => `(tactic| first
  | walk_at "rd1"
  | ((with_reducible refine' r_isi true ?ht ?hk ?_); (case ht => walk_at "ty"); (case hk => first | assumption | decide +kernel))
  | ((with_reducible refine' r_isi false ?ht ?hk ?_); (case ht => walk_at "ty"); (case hk => first | assumption | decide +kernel))
  | ((with_reducible refine' r_isiT2 true true ?hT ?ht ?hk ?hk2 ?_); (case hT => walk_at "lk"); (case ht => walk_at "ty"); (case hk => decide +kernel); (case hk2 => decide +kernel))
  | ((with_reducible refine' r_isiT2 true false ?hT ?ht ?hk ?hk2 ?_); (case hT => walk_at "lk"); (case ht => walk_at "ty"); (case hk => decide +kernel); (case hk2 => decide +kernel))
  | ((with_reducible refine' r_isiT2 false true ?hT ?ht ?hk ?hk2 ?_); (case hT => walk_at "lk"); (case ht => walk_at "ty"); (case hk => decide +kernel); (case hk2 => decide +kernel))
  | ((with_reducible refine' r_isiT2 false false ?hT ?ht ?hk ?hk2 ?_); (case hT => walk_at "lk"); (case ht => walk_at "ty"); (case hk => decide +kernel); (case hk2 => decide +kernel))
  | (with_reducible refine r_iteNT ?_)
  | ((show (if (!true) = true then _ else _)); refine r_iteNT ?_)
  | (with_reducible refine r_r1 ?_)
  | (with_reducible refine r_maks ?_)
  | (with_reducible refine r_sfld ?_)
  | ((with_reducible refine' r_sfldE ?h1 ?h2 ?h3 ?h4 ?_); (case h1 => walk_at "lk"); (case h2 => assumption); (case h3 => assumption); (case h4 => exact (show _ + 1 ≤ 1000 from Nat.le_of_ble_eq_true rfl)))
  | (with_reducible refine r_fld ?_)
  | (with_reducible refine r_join ?_)
  | (with_reducible refine r_jcons ?_)
  | (with_reducible refine r_jnil ?_)
  | ((with_reducible refine r_rLenY ?hz ?_); (case hz => first | assumption | (refine Nat.le_trans ?_ (by decide : 100000 ≤ sizeLine); omega)))
  | (with_reducible refine r_par ?_)
  | (with_reducible refine r_pair ?_)
  | (with_reducible refine r_par3 ?_)
  | (with_reducible refine r_trip ?_)
  | ((with_reducible refine' r_gtup ?h1 ?h2 ?_); (case h1 => first | assumption | exact SqT.of (by walk_at "lk")); (case h2 => exact rfl))
  | (with_reducible refine r_gcons ?_)
  | (with_reducible refine r_gnil ?_)
  | ((with_reducible refine' r_slL ?h1 ?_); (case h1 => first | assumption | exact SqL.of (by walk_at "lk")); (intro p hp))
  | (with_reducible refine r_iTup ?_)
  | ((with_reducible refine' r_tupE ?h1 ?_); (case h1 => first | assumption | exact SqT.of (by walk_at "lk")))
  | (with_reducible refine r_m1 ?_)
  | (with_reducible refine r_isZ ?_)
  | (with_reducible refine r_sl ?_)
  | (with_reducible refine r_noPart ?_)
  | (with_reducible refine r_part ?_)
  | (with_reducible refine r_partE ?_)
  | ((with_reducible refine r_slS ?hz ?_); (case hz => first | assumption | (refine Nat.le_trans ?_ (by decide : 100000 ≤ sizeLine); omega)))
  | ((with_reducible refine' r_inT ?h1 ?h2 ?h3 ?_); (case h1 => first | assumption | (exact SqT.of (by walk_at "lk"))); (case h2 => exact rfl); (case h3 => exact rfl))
  | ((with_reducible refine' r_inL ?h1 ?h2 ?h3 ?_); (case h1 => first | assumption | (exact SqL.of (by walk_at "lk"))); (case h2 => exact rfl); (case h3 => exact rfl))
  | (with_reducible refine r_lc ?_)
  | (with_reducible refine r_for ?_)
  | (with_reducible refine r_iStr ?_)
  | (with_reducible refine r_strE ?_)
  | (with_reducible refine r_iList ?_)
  | ((with_reducible refine' r_listE ?h1 ?_); (case h1 => first | assumption | exact SqL.of (by walk_at "lk")))
  | (with_reducible refine r_iRng1 ?_)
  | ((with_reducible refine' r_rngE ?h0 ?h1 ?_); (case h0 => first | omega | (split <;> omega)); (case h1 => first | omega | (split <;> omega))))
local macro_rules | `(tactic| walk_at "rd") => `(tactic| (repeat walk_at "rd2"))
local macro_rules | `(tactic| walk_at "st") => `(tactic| (repeat (first
  | (with_reducible refine r_gname ?_)
  | (with_reducible refine r_next ?_)
  | (with_reducible refine r_seq ?_)
  | (with_reducible refine r_asg ?_)
  | (with_reducible refine r_ret ?_)
  | (with_reducible refine r_for ?_)
  | (with_reducible refine r_iRng1 ?_)
  | (with_reducible refine r_iList ?_)
  | (with_reducible refine r_cons ?_)
  | (with_reducible refine r_par ?_)
  | (with_reducible refine r_par3 ?_))))
/-! ### what the top has written -/
structure DefF (K : PySem.W.Frag) (x : Str) (st : Stmt) (f : Addr) : Prop where
  ns : PySem.W.nsIn K mainGlobals x = some (some (.ref f))
  fn : ∃ (oc : Value) (od an : Option Addr) (kV doc pm cdv ct : Value) (osl : Array (Option Value)), K.lookup f = some ⟨oc, od, .func (PySem.W.fnOf x x (defArgs st) (defBody st) (defScope st) .none kV doc pm an cdv ct), osl⟩ ∧ PySem.W.codeIn K cdv x = true
  kp : PySem.W.keepIn K (.ref f) = true
theorem defF_mk {K : PySem.W.Frag} {x : Str} {st : Stmt} {f : Addr} {oc : Value} {od an : Option Addr} {kV doc pm cdv ct : Value} {osl : Array (Option Value)} (a : PySem.W.nsIn K mainGlobals x = some (some (.ref f)))
    (l : K.lookup f = some ⟨oc, od, .func (PySem.W.fnOf x x (defArgs st) (defBody st) (defScope st) .none kV doc pm an cdv ct), osl⟩) (c : PySem.W.codeIn K cdv x = true) (k : PySem.W.keepIn K (.ref f) = true) : DefF K x st f :=
  ⟨a, ⟨oc, od, an, kV, doc, pm, cdv, ct, osl, l, c⟩, k⟩
theorem DefF.fun_ {K : PySem.W.Frag} {x : Str} {st : Stmt} {f : Addr} (d : DefF K x st f) : ∃ fd, Fun K x x st f fd := by
  obtain ⟨oc, od, an, kV, doc, pm, cdv, ct, osl, l, c⟩ := d.fn
  exact ⟨_, fun_mk l c d.kp⟩
section
variable {P : Program} {w : World} {K : PySem.W.Frag} {mg : Str → Option Value} {base : Heap}
theorem cal_mk {h : Heap} {x : Str} {st : Stmt} {f : Addr} {ps : List Str} {k : Nat} {sp : Sp} (X : K.In h) (G : h.Ns mainGlobals mg) (d : DefF K x st f)
    (hb : ∀ (kV doc pm : Value) (an : Option Addr) (cdv ct : Value) (us : List Value), us.length = ps.length → bindArgs (PySem.W.fnOf x x (defArgs st) (defBody st) (defScope st) .none kV doc pm an cdv ct) ⟨us, []⟩ = pure (ps.zip us))
    (ok : ∀ fd, Fun K x x st f fd → FnOk P w K mg base CX0 k f fd ps sp) : CalT P w K mg base k x sp := by
  obtain ⟨fd, F⟩ := d.fun_
  exact ⟨f, fd, ps, ok fd F, PySem.W.mg_of X G d.ns, d.kp, F.binds hb⟩
theorem calk_mk {h : Heap} {x : Str} {st : Stmt} {f : Addr} {ps : List Str} {k : Nat} {sp : Sp} {n1 : Str} (X : K.In h) (G : h.Ns mainGlobals mg) (d : DefF K x st f)
    (hb : ∀ (kV doc pm : Value) (an : Option Addr) (cdv ct : Value) (u : Value), bindArgs (PySem.W.fnOf x x (defArgs st) (defBody st) (defScope st) .none kV doc pm an cdv ct) ⟨[], [(n1, u)]⟩ = pure (ps.zip [u]))
    (ok : ∀ fd, Fun K x x st f fd → FnOk P w K mg base CX0 k f fd ps sp) : CalK P w K mg base k x [n1] sp := by
  obtain ⟨fd, F⟩ := d.fun_
  refine ⟨f, fd, ps, ok fd F, PySem.W.mg_of X G d.ns, d.kp, ⟨?_, fun r1 r2 => r1.append r2⟩⟩
  obtain ⟨oc, od, kV, doc, pm, an, cdv, ct, osl, rfl, lk, hcd⟩ := F.ex
  intro s us ws _ h1 h2
  match us, ws, h1, h2 with
  | [], [u], _, _ => exact .of_eq (hb kV doc pm an cdv ct u)
end
theorem all_mk {l : PySem.W.OpenLaw} {w : World} {K : PySem.W.Frag} {h : Heap} {mg : Str → Option Value} {fa fL f1 f2 f3 f4 f5 f6 f7 f8 f9 f10 f11 f12 f13 aNP : Addr} {t1 t2 : Tok} (X : K.In h) (G : h.Ns mainGlobals mg) (hfa : mg "law" = some (.ref fa))
    (dL : DefF K "law" s_law fL) (d1 : DefF K "is_integer_within" s_is_integer_within f1) (d2 : DefF K "is_name" s_is_name f2) (d3 : DefF K "is_path" s_is_path f3) (d4 : DefF K "blob" s_blob f4) (d5 : DefF K "is_row_of_bytes" s_is_row_of_bytes f5)
    (d6 : DefF K "_law_source" s__law_source f6) (d7 : DefF K "_law_draw" s__law_draw f7) (d8 : DefF K "_law_random_name" s__law_random_name f8) (d9 : DefF K "_law_any_name" s__law_any_name f9)
    (d10 : DefF K "_law_is_name" s__law_is_name f10) (d11 : DefF K "_law_is_path" s__law_is_path f11) (d12 : DefF K "_law_bent" s__law_bent f12) (d13 : DefF K "is_integer" s_is_integer f13)
    (nM : PySem.W.nsIn K mainGlobals "MOST_CHARACTERS" = some (some (.int 250 t1))) (nC : PySem.W.nsIn K mainGlobals "NAME_CHARACTERS" = some (some (.str NC t2))) (nP : PySem.W.nsIn K mainGlobals "NO_PARTS" = some (some (.ref aNP)))
    {dd : Option Addr} {n : Nat} {sl : Array (Option Value)} {u1 u2 u3 : Tok} (lP : K.lookup aNP = some ⟨.type "tuple", dd, .seq #[.str "" u1, .str "." u2, .str ".." u3] n, sl⟩)
    (z : ∀ b ∈ (["isinstance", "bool", "int", "list", "tuple", "all", "any", "bytes", "str", "len", "abs", "min", "max", "range", "repr"] : List Str), PySem.W.nsIn K mainGlobals b = some none) :
    ∃ fd : FuncData, (∀ (s : Shared) (v : Value), BindsTo s fd ⟨[v], []⟩ [("_law_script", v)]) ∧ ∀ base : Heap, K.In base → base.Ns mainGlobals mg → FnG l.prog w K mg base 5 fa fd ["_law_script"] (spLaw K) := by
  have e := hfa.symm.trans (PySem.W.mg_of X G dL.ns)
  cases e
  have m : ∀ b ∈ (["isinstance", "bool", "int", "list", "tuple", "all", "any", "bytes", "str", "len", "abs", "min", "max", "range", "repr"] : List Str), mg b = none := fun b hb => PySem.W.mg_none_of X G (z b hb)
  have b1 : mg "isinstance" = none := m _ (by simp)
  have b2 : mg "bool" = none := m _ (by simp)
  have b3 : mg "int" = none := m _ (by simp)
  have b4 : mg "list" = none := m _ (by simp)
  have b5 : mg "tuple" = none := m _ (by simp)
  have b6 : mg "all" = none := m _ (by simp)
  have b7 : mg "any" = none := m _ (by simp)
  have b8 : mg "bytes" = none := m _ (by simp)
  have b9 : mg "str" = none := m _ (by simp)
  have b10 : mg "len" = none := m _ (by simp)
  have b11 : mg "abs" = none := m _ (by simp)
  have b12 : mg "min" = none := m _ (by simp)
  have b13 : mg "max" = none := m _ (by simp)
  have b14 : mg "range" = none := m _ (by simp)
  have b15 : mg "repr" = none := m _ (by simp)
  have mM := PySem.W.mg_of X G nM
  have mC := PySem.W.mg_of X G nC
  have mP := PySem.W.mg_of X G nP
  have hNP : ∀ H, SqT K H aNP NPs := fun H => .inr ⟨_, _, _, lP, rfl, rfl, (by show 3 ≤ sizeLine; decide), .cons ⟨_, rfl⟩ (.cons ⟨_, rfl⟩ (.cons ⟨_, rfl⟩ .nil))⟩
  obtain ⟨fd, F⟩ := dL.fun_
  refine ⟨fd, ?_, ?_⟩
  · obtain ⟨oc, od, kV, doc, pm, an, cdv, ct, osl, rfl, lk, hcd⟩ := F.ex
    intro s v
    exact .of_eq rfl
  · intro base Xb Gb
    have c_isI : CalT l.prog w K mg base 1 "is_integer" spIsI := cal_mk Xb Gb d13 (ps := ["thing"]) (fun _ _ _ _ _ _ us hl => match us, hl with | [_], _ => rfl) fun fd F => ok_isI F b1 b2 b3
    have c_within : CalT l.prog w K mg base 2 "is_integer_within" spWithin := cal_mk Xb Gb d1 (ps := ["thing", "least", "most"]) (fun _ _ _ _ _ _ us hl => match us, hl with | [_, _, _], _ => rfl) fun fd F => ok_within F c_isI
    have c_row : CalT l.prog w K mg base 3 "is_row_of_bytes" spRow := cal_mk Xb Gb d5 (ps := ["thing"]) (fun _ _ _ _ _ _ us hl => match us, hl with | [_], _ => rfl) fun fd F => ok_row F c_within b1 b4 b5 b6
    have c_blob : CalT l.prog w K mg base 4 "blob" spBlob := cal_mk Xb Gb d4 (ps := ["numbers"]) (fun _ _ _ _ _ _ us hl => match us, hl with | [_], _ => rfl) fun fd F => ok_blob F c_row b8
    have c_is_name : CalT l.prog w K mg base 2 "is_name" (spName K) := cal_mk Xb Gb d2 (ps := ["thing"]) (fun _ _ _ _ _ _ us hl => match us, hl with | [_], _ => rfl) fun fd F => ok_name F b1 b9 b10 b6 mM mC
    have c_is_name_k : CalK l.prog w K mg base 2 "is_name" ["thing"] (spName K) := calk_mk Xb Gb d2 (ps := ["thing"]) (fun _ _ _ _ _ _ _ => rfl) fun fd F => ok_name F b1 b9 b10 b6 mM mC
    have c_is_path : CalT l.prog w K mg base 3 "is_path" (spPath K) := cal_mk Xb Gb d3 (ps := ["thing"]) (fun _ _ _ _ _ _ us hl => match us, hl with | [_], _ => rfl) fun fd F => ok_path F b7 mP hNP c_is_name
    have c_is_path_k : CalK l.prog w K mg base 3 "is_path" ["thing"] (spPath K) := calk_mk Xb Gb d3 (ps := ["thing"]) (fun _ _ _ _ _ _ _ => rfl) fun fd F => ok_path F b7 mP hNP c_is_name
    have c_source : CalT l.prog w K mg base 2 "_law_source" (spSource K) := cal_mk Xb Gb d6 (ps := ["_law_script", "_law_at"]) (fun _ _ _ _ _ _ us hl => match us, hl with | [_, _], _ => rfl) fun fd F => ok_source F b10 b3 b11 b12 b14
    have c_draw : CalT l.prog w K mg base 2 "_law_draw" spDraw := cal_mk Xb Gb d7 (ps := ["_law_source_here", "_law_many"]) (fun _ _ _ _ _ _ us hl => match us, hl with | [_, _], _ => rfl) fun fd F => ok_draw F b3
    have c_rname : CalT l.prog w K mg base 3 "_law_random_name" spRName := cal_mk Xb Gb d8 (ps := ["_law_source_here", "_law_many"]) (fun _ _ _ _ _ _ us hl => match us, hl with | [_, _], _ => rfl) fun fd F => ok_rname F b14 c_draw
    have c_aname : CalT l.prog w K mg base 4 "_law_any_name" spAName := cal_mk Xb Gb d9 (ps := ["_law_source_here"]) (fun _ _ _ _ _ _ us hl => match us, hl with | [_], _ => rfl) fun fd F => ok_aname F b10 c_draw c_rname
    have c_lname : CalT l.prog w K mg base 2 "_law_is_name" (spName K) := cal_mk Xb Gb d10 (ps := ["_law_given"]) (fun _ _ _ _ _ _ us hl => match us, hl with | [_], _ => rfl) fun fd F => ok_lname F b1 b9 b10 b6
    have c_lpath : CalT l.prog w K mg base 3 "_law_is_path" (spPath K) := cal_mk Xb Gb d11 (ps := ["_law_given"]) (fun _ _ _ _ _ _ us hl => match us, hl with | [_], _ => rfl) fun fd F => ok_lpath F c_lname
    have c_bent : CalT l.prog w K mg base 3 "_law_bent" spBent := cal_mk Xb Gb d12 (ps := ["_law_source_here", "_law_text"]) (fun _ _ _ _ _ _ us hl => match us, hl with | [_, _], _ => rfl) fun fd F => ok_bent F b10 c_draw
    exact ok_law F b14 b13 b12 b10 b15 c_source c_aname c_bent c_draw c_blob c_is_name c_is_path c_is_name_k c_is_path_k c_lname c_lpath
theorem walk {l : PySem.W.OpenLaw} {q : Program} {loose : List Str} {XP : (Str → Option Value) → Heap → Prop} {YP : World → Heap → Prop} {d : DefRec} {K : Params → PySem.W.Frag} (hn : l.most = some 63) (hdf : d.params.defaults = [])
    (hY : ∀ (w : World) (h : Heap), YP w h → (K w.params).In h)
    (F : ∀ (w : World) (mg : Str → Option Value) (fa : Addr) (h : Heap), (K w.params).In h → h.Ns mainGlobals mg → mg d.name = some (.ref fa) →
      ∃ fd : FuncData, (∀ (s : Shared) (u : Value), BindsTo s fd ⟨[u], []⟩ [("_law_script", u)]) ∧ ∀ base : Heap, (K w.params).In base → base.Ns mainGlobals mg → FnG l.prog w (K w.params) mg base 5 fa fd ["_law_script"] (spLaw (K w.params))) :
    PySem.W.WalkO q loose XP YP l.row.toRowW d [] (fun f vs => PySem.call f vs) :=
  walkG (n := 63) (k := 5) (sp := fun w => spLaw (K w.params)) hn (by decide) hdf ⟨rfl, by decide, by decide⟩ hY F (fun _ _ a ns hl _ hS => ⟨a, ns, rfl, hS, hl, fun _ => rfl⟩)
end Th
open PySem PySem.W PyProof.Rows
set_option maxRecDepth 100000 in
set_option maxHeartbeats 0 in
theorem PySem.Challenge.cw_tarhouse_k03_names_and_paths_holds : PySem.Challenge.rw_tarhouse_k03_names_and_paths.Holds := by
  w_on; o_law; k_head; (case hw => w_witness2)
  k_fill
  refine Th.walk (l := PySem.Challenge.rw_tarhouse_k03_names_and_paths) rfl rfl (fun w h Y => PySem.W.kIn_of Y) ?F
  case F =>
    intro w mg fa h KX G hmg
    refine' Th.all_mk KX G hmg (Th.defF_mk ?aL ?lL ?cL ?kL) (Th.defF_mk ?a1 ?l1 ?c1 ?k1) (Th.defF_mk ?a2 ?l2 ?c2 ?k2) (Th.defF_mk ?a3 ?l3 ?c3 ?k3) (Th.defF_mk ?a4 ?l4 ?c4 ?k4) (Th.defF_mk ?a5 ?l5 ?c5 ?k5) (Th.defF_mk ?a6 ?l6 ?c6 ?k6) (Th.defF_mk ?a7 ?l7 ?c7 ?k7) (Th.defF_mk ?a8 ?l8 ?c8 ?k8) (Th.defF_mk ?a9 ?l9 ?c9 ?k9) (Th.defF_mk ?a10 ?l10 ?c10 ?k10) (Th.defF_mk ?a11 ?l11 ?c11 ?k11) (Th.defF_mk ?a12 ?l12 ?c12 ?k12) (Th.defF_mk ?a13 ?l13 ?c13 ?k13) ?nM ?nC ?nP ?lP ?z
    (case aL => k_is); (case lL => k_is); (case cL => k_is); (case kL => k_is)
    (case a1 => k_is); (case l1 => k_is); (case c1 => k_is); (case k1 => k_is)
    (case a2 => k_is); (case l2 => k_is); (case c2 => k_is); (case k2 => k_is)
    (case a3 => k_is); (case l3 => k_is); (case c3 => k_is); (case k3 => k_is)
    (case a4 => k_is); (case l4 => k_is); (case c4 => k_is); (case k4 => k_is)
    (case a5 => k_is); (case l5 => k_is); (case c5 => k_is); (case k5 => k_is)
    (case a6 => k_is); (case l6 => k_is); (case c6 => k_is); (case k6 => k_is)
    (case a7 => k_is); (case l7 => k_is); (case c7 => k_is); (case k7 => k_is)
    (case a8 => k_is); (case l8 => k_is); (case c8 => k_is); (case k8 => k_is)
    (case a9 => k_is); (case l9 => k_is); (case c9 => k_is); (case k9 => k_is)
    (case a10 => k_is); (case l10 => k_is); (case c10 => k_is); (case k10 => k_is)
    (case a11 => k_is); (case l11 => k_is); (case c11 => k_is); (case k11 => k_is)
    (case a12 => k_is); (case l12 => k_is); (case c12 => k_is); (case k12 => k_is)
    (case a13 => k_is); (case l13 => k_is); (case c13 => k_is); (case k13 => k_is)
    (case nM => k_is); (case nC => k_is); (case nP => k_is); (case lP => k_is)
    case z =>
      refine List.forall_mem_cons.mpr ⟨?_, ?_⟩; (k_is)
      refine List.forall_mem_cons.mpr ⟨?_, ?_⟩; (k_is)
      refine List.forall_mem_cons.mpr ⟨?_, ?_⟩; (k_is)
      refine List.forall_mem_cons.mpr ⟨?_, ?_⟩; (k_is)
      refine List.forall_mem_cons.mpr ⟨?_, ?_⟩; (k_is)
      refine List.forall_mem_cons.mpr ⟨?_, ?_⟩; (k_is)
      refine List.forall_mem_cons.mpr ⟨?_, ?_⟩; (k_is)
      refine List.forall_mem_cons.mpr ⟨?_, ?_⟩; (k_is)
      refine List.forall_mem_cons.mpr ⟨?_, ?_⟩; (k_is)
      refine List.forall_mem_cons.mpr ⟨?_, ?_⟩; (k_is)
      refine List.forall_mem_cons.mpr ⟨?_, ?_⟩; (k_is)
      refine List.forall_mem_cons.mpr ⟨?_, ?_⟩; (k_is)
      refine List.forall_mem_cons.mpr ⟨?_, ?_⟩; (k_is)
      refine List.forall_mem_cons.mpr ⟨?_, ?_⟩; (k_is)
      refine List.forall_mem_cons.mpr ⟨?_, ?_⟩; (k_is)
      exact fun _ h => nomatch h
