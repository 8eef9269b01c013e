import PyProof.Rows.All
import Wide.All
import OpenK.AllK
import Wide.FinOn
import HandS.ForMost
import HandS.IsInst
import HandS.Flow
import HandS.Wide
import HandS.Defaults
import HandS.Codes
import HandS.Bytes
import HandS.StrMore
import HandS.Walk
import HandS.More
import HandS.Conv
import HandS.Style
import HandS.FStr
import HandS.Star
import HandS.MakeKwOnly
import HandS.BytesMake
import KE.KBytesNew
import HandS.ClsMeth
import HandS.SlotsOwn
import HandS.OwnEq
import PySem.Challenge.RW_tarhouse_k04_members_compared
set_option Elab.async false
set_option linter.all false
set_option maxRecDepth 100000
set_option maxHeartbeats 8000000
namespace Th
open PySem PySem.Spec PyProof.Rows L2
section
variable {K : PySem.W.Frag} {σ : L2.St} {H : Hp} {Q : VK} {D : Ends} {t u : TS} {c : TT} {te ta tb tx : TE} {g : TG} {r r' : R2} {v x y : V} {i : Nat} {to tp : TO}
theorem r_seq (h : t { D with nx := u D } σ H) : tSeq t u D σ H := h
theorem r_if (h : c σ H fun b H1 => if b = true then t D σ H1 else u D σ H1) : tIfS c t u D σ H := h
theorem r_asg (h : te σ H fun x H1 => g x σ H1 D.nx) : tAsg te g D σ H := h
theorem r_ret (h : te σ H D.rt) : tRet te D σ H := h
theorem r_next (h : D.nx σ H) : tNext D σ H := h
theorem r_drop (h : te σ H fun _ H1 => D.nx σ H1) : tDrop te D σ H := h
theorem r_cont (h : D.ct σ H) : tCont D σ H := h
theorem r_brk (h : D.bk σ H) : tBreak D σ H := h
theorem r_gname {Q : L2.St → Hp → Prop} (h : Q (σ.set i (some v)) H) : gName i v σ H Q := h
theorem r_var (e : σ[i]? = some (some v)) (h : Q v H) : tVar i σ H Q := ⟨v, e, h⟩
theorem r_c (h : Q v H) : tC v σ H Q := h
theorem r_op (h : ta σ H fun x H1 => tb σ H1 fun y H2 => r x y H2 Q) : tOp r ta tb σ H Q := h
theorem r_un {r : V → Hp → VK → Prop} (h : ta σ H fun x H1 => r x H1 Q) : tUn r ta σ H Q := h
theorem r_neg {i : Int} (h : Q (.int (-i)) H) : rU (fun i => .int (-i)) (.int i) H Q := ⟨i, rfl, h⟩
theorem r_I0 {g : Int → Int → V} {i j : Int} (h : Q (g i j) H) : rI0 g (.int i) (.int j) H Q := ⟨i, j, rfl, rfl, h⟩
theorem r_I {C : Int → Int → Prop} {g : Int → Int → V} {i j : Int} (hc : C i j) (h : Q (g i j) H) : rI C g (.int i) (.int j) H Q := ⟨i, j, rfl, rfl, hc, h⟩
theorem r_test {t : TE} {Q : Bool → Hp → Prop} (h : t σ H fun x H' => ∃ k, x = .bl k ∧ Q k H') : tTest t σ H Q := h
theorem r_tB {t : TE} {Q : Bool → Hp → Prop} (h : t σ H fun x H' => ∃ k, x = .bl k ∧ Q k H') : tB t σ H Q := h
theorem r_bl {b : Bool} {P : Bool → Prop} (h : P b) : ∃ k, V.bl b = .bl k ∧ P k := ⟨b, rfl, h⟩
theorem r_not {t : TT} {Q : Bool → Hp → Prop} (h : t σ H fun c H1 => Q (!c) H1) : tNot t σ H Q := h
theorem r_and {t u : TT} {Q : Bool → Hp → Prop} (h : t σ H fun c H1 => if c = true then u σ H1 Q else Q false H1) : tAnd t u σ H Q := h
theorem r_or {t u : TT} {Q : Bool → Hp → Prop} (h : t σ H fun c H1 => if c = true then Q true H1 else u σ H1 Q) : tOr t u σ H Q := h
theorem r_ifE {t : TT} (h : t σ H fun c H1 => if c = true then ta σ H1 Q else tb σ H1 Q) : tIf t ta tb σ H Q := h
theorem r_notV {t : TE} (h : t σ H fun x H1 => ∃ k, x = .bl k ∧ Q (.bl (!k)) H1) : tNotV t σ H Q := h
theorem r_andV (h : ta σ H fun x H1 => ∃ k, x = .bl k ∧ if k = true then tb σ H1 Q else Q (.bl false) H1) : tAndV ta tb σ H Q := h
theorem r_orV (h : ta σ H fun x H1 => ∃ k, x = .bl k ∧ if k = true then Q (.bl true) H1 else tb σ H1 Q) : tOrV ta tb σ H Q := h
theorem r_chain (h : ta σ H fun x H1 => tb σ H1 fun y H2 => r x y H2 fun z H3 => ∃ k, z = .bl k ∧ (if k = true then tx σ H3 fun w' H4 => r' y w' H4 Q else Q (.bl false) H3)) : tChain r r' ta tb tx σ H Q := h
theorem r_iteD {p A B : Prop} [Decidable p] (h1 : p → A) (h2 : ¬ p → B) : if decide p = true then A else B := by
  by_cases h : p
  · rw [if_pos (decide_eq_true h)]; exact h1 h
  · rw [if_neg (by rw [decide_eq_false h]; exact Bool.false_ne_true)]; exact h2 h
theorem r_iteT {A B : Prop} (h : A) : if true = true then A else B := by rw [if_pos rfl]; exact h
theorem r_iteF {A B : Prop} (h : B) : if false = true then A else B := by rw [if_neg Bool.false_ne_true]; exact h
theorem r_iteB {b : Bool} {A B : Prop} (h1 : b = true → A) (h2 : b = false → B) : if b = true then A else B := by
  cases b with
  | true => exact r_iteT (h1 rfl)
  | false => exact r_iteF (h2 rfl)
theorem r_iteNT {A B : Prop} (h : B) : if (!true) = true then A else B := by rw [if_neg (by decide)]; exact h
theorem r_iteNF {A B : Prop} (h : A) : if (!false) = true then A else B := by rw [if_pos (by decide)]; exact h
theorem r_iteN {b : Bool} {A B : Prop} (h1 : b = false → A) (h2 : b = true → B) : if (!b) = true then A else B := by
  cases b with
  | true => exact r_iteNT (h2 rfl)
  | false => exact r_iteNF (h1 rfl)
theorem r_cb {r : List V → Hp → VK → Prop} {t : TA} (h : t σ H fun vs H1 => r vs H1 Q) : tCB r t σ H Q := h
theorem r_call {sp : Sp} {dvs : List V} {E : XK} {t : TA} (h : t σ H fun vs H1 => sp (vs ++ dvs) H1 Q E) : tCall sp dvs E t σ H Q := h
theorem r_nil {Q : List V → Hp → Prop} (h : Q [] H) : tNil σ H Q := h
theorem r_cons {tr : TA} {Q : List V → Hp → Prop} (h : ta σ H fun x H1 => tr σ H1 fun xs H2 => Q (x :: xs) H2) : tCons ta tr σ H Q := h
theorem r_lst {t : TA} (h : t σ H fun xs H1 => xs.length ≤ sizeLine ∧ ∀ p, H1 p = none → Q (.ref p) (upd H1 p (.lst xs))) : tLst t σ H Q := h
theorem r_tup {t : TA} (h : t σ H fun xs H1 => xs.length ≤ sizeLine ∧ ∀ p, H1 p = none → Q (.ref p) (upd H1 p (.tup xs))) : tTup t σ H Q := h
theorem r_new {n m : Nat} {P : Prop} (h : n ≤ m) (q : P) : n ≤ m ∧ P := ⟨h, q⟩
theorem r_ixL {p : Addr} {xs : List V} {i : Int} {v : V} (hp : SqL K H p xs) (hi : atI xs i = some v) (h : Q v H) : rIxL K (.ref p) (.int i) H Q := ⟨p, xs, i, v, rfl, rfl, hp, hi, h⟩
theorem r_ixT {p : Addr} {xs : List V} {i : Int} {v : V} (hp : SqT K H p xs) (hi : atI xs i = some v) (h : Q v H) : rIxT K (.ref p) (.int i) H Q := ⟨p, xs, i, v, rfl, rfl, hp, hi, h⟩
theorem r_gsub {ti : TE} {t : TSet} {Q : L2.St → Hp → Prop} (h : ta σ H fun o H1 => ti σ H1 fun i H2 => t o i v H2 fun H3 => Q σ H3) : gSub ta ti t v σ H Q := h
theorem r_setL {p : Addr} {xs : List V} {k : Int} {j : Nat} {Q : Hp → Prop} (hp : H p = some (.lst xs)) (hk : ixN xs.length k = some j) (h : Q (upd H p (.lst (xs.set j v)))) : rSetL (.ref p) (.int k) v H Q := ⟨p, xs, k, j, rfl, rfl, hp, hk, h⟩
theorem r_int1 {i : Int} (h : Q (.int i) H) : (fun (xs : List V) H (Q : VK) => (∃ i, xs = [V.int i] ∧ Q (V.int i) H) ∨ ∃ k, xs = [V.bl k] ∧ Q (V.int (if k = true then 1 else 0)) H) [.int i] H Q := .inl ⟨i, rfl, h⟩
theorem r_int1' {i : Int} (h : Q (.int i) H) : (∃ j, [V.int i] = [V.int j] ∧ Q (V.int j) H) ∨ ∃ k, [V.int i] = [V.bl k] ∧ Q (V.int (if k = true then 1 else 0)) H := .inl ⟨i, rfl, h⟩
/-! ### heaps -/
theorem upd_old {p a : Addr} {o x : HO} (hp : H p = none) (ha : H a = some x) : upd H p o a = some x := by rw [upd_ne (ne_of_none ha hp)]; exact ha
theorem upd_diff {p a : Addr} {o x : HO} (n : a ≠ p) (ha : H a = some x) : upd H p o a = some x := by rw [upd_ne n]; exact ha
/-- what is not at a stays -/
def But (a : Addr) (H H' : Hp) : Prop := ∀ b o, b ≠ a → H b = some o → H' b = some o
end
end Th
namespace Th
open PySem PySem.Spec PyProof.Rows L2
/-! ### calls of own defs, by one fact each -/
structure CalT (P : Program) (w : World) (K : PySem.W.Frag) (mg : Str → Option Value) (base : Heap) (k : Nat) (x : Str) (sp : Sp) : Prop where
  ex : ∃ (f : Addr) (fd : FuncData) (ps : List Str), FnOk P w K mg base CX0 k f fd ps sp ∧ mg x = some (.ref f) ∧ PySem.W.keepIn K (.ref f) = true ∧ Binds K fd ps []
structure CalK (P : Program) (w : World) (K : PySem.W.Frag) (mg : Str → Option Value) (base : Heap) (k : Nat) (x : Str) (ks : List Str) (sp : Sp) : Prop where
  ex : ∃ (f : Addr) (fd : FuncData) (ps : List Str), FnOk P w K mg base CX0 k f fd ps sp ∧ mg x = some (.ref f) ∧ PySem.W.keepIn K (.ref f) = true ∧ KBn K fd ps 0 ks (fun us ws => us ++ ws) (fun us ws => us ++ ws)
section
variable {X : Cx} {j k : Nat} {x : Str} {sp : Sp} {e : Expr} {es : List Expr} {p pos : Pos} {t tk : TA} {ks : List Str} {kws : List Keyword}
theorem pe_cc (c : CalT X.prog X.w X.K X.mg X.base k x sp) (hr : Room j X.A) (hk : k ≤ j) (hg : Gl X x) (ha : PA X (e :: es) t) (hdb : (x == ("__debug__" : Str)) = false := by decide)
    (he : starEach (e :: es) X.env = (false, eval e X.env) :: starEach es X.env := by rfl) (hpl : (backTo pos (starEach es X.env)).any (·.1) = false := by rfl) : PE X (.Call (.Name x p) (e :: es) [] pos) (tCall sp [] E0 t) := by
  obtain ⟨f, fd, ps, F, hm, kp, b⟩ := c.ex
  exact pe_call F (hr.mono hk) hg hm kp b .nil pass0 ha hdb he hpl
theorem pe_cc0 (c : CalT X.prog X.w X.K X.mg X.base k x sp) (hr : Room j X.A) (hk : k ≤ j) (hg : Gl X x) (hdb : (x == ("__debug__" : Str)) = false := by decide) : PE X (.Call (.Name x p) [] [] pos) (tCall sp [] E0 tNil) := by
  obtain ⟨f, fd, ps, F, hm, kp, b⟩ := c.ex
  exact pe_call0 F (hr.mono hk) hg hm kp b .nil pass0 hdb
/-- f(k = v, ..) -/
theorem pe_ck0 (c : CalK X.prog X.w X.K X.mg X.base k x ks sp) (hr : Room j X.A) (hk : k ≤ j) (hg : Gl X x) (hkw : PK X kws tk)
    (hall : (backToKw pos (keywordEach kws X.env)).all (·.1.isSome) = true := by rfl) (hks : (backToKw pos (keywordEach kws X.env)).filterMap (·.1) = ks := by rfl) (hdb : (x == ("__debug__" : Str)) = false := by decide)
    (hpl : ((backTo pos (starEach [] X.env)).any (·.1) || (backToKw pos (keywordEach kws X.env)).any (·.1.isNone)) = false := by rfl) :
    PE X (.Call (.Name x p) [] kws pos) (tCallN 0 ks.length sp (fun us ws => us ++ ws) E0 tNil tk) := by
  obtain ⟨f, fd, ps, F, hm, kp, b⟩ := c.ex
  constructor
  intro pins s σ H Q I h
  refine wpAny_Call_Name_kw (ld_glob I hg hm ?_ hdb)
  refine PySem.W.callWith_KW0 (h₀ := X.base) I.ok.mod.kin kp hall (thn (hkw.run pos pins s σ H _ I h) ?_) hpl
  rintro ws s2 ⟨zs, H2, I2, rz, l1, l2, q2⟩
  refine ⟨I2.kIn, ?_⟩
  rw [hks]
  exact run_fnN (us := []) (vs := []) F (hr.mono hk) b pass0 I2 .nil rz rfl l2 q2
end
section
variable {K : PySem.W.Frag} {σ : L2.St} {H : Hp} {Q : VK}
theorem r_callN {n m : Nat} {sp : Sp} {gV : List V → List V → List V} {E : XK} {t tk : TA} (h : t σ H fun vs H1 => tk σ H1 fun zs H2 => vs.length = n ∧ zs.length = m ∧ sp (gV vs zs) H2 Q E) : tCallN n m sp gV E t tk σ H Q := h
/-! ### built-in functions, by names -/
def rInt1 : List V → Hp → VK → Prop := fun xs H Q => ∃ i, xs = [.int i] ∧ Q (.int i) H
theorem call_rInt1 {X : Cx} : CallR X (.type "int") rInt1 := fun pins s σ H xs us Q I r h => call_int1 pins s σ H xs us Q I r (.inl h)
theorem r_rInt1 {i : Int} (h : Q (.int i) H) : rInt1 [.int i] H Q := ⟨i, rfl, h⟩
def rIntB : List V → Hp → VK → Prop := fun xs H Q => ∃ i, xs = [.bl i] ∧ Q (.int (if i then 1 else 0)) H
theorem call_rIntB {X : Cx} : CallR X (.type "int") rIntB := fun pins s σ H xs us Q I r h => call_int1 pins s σ H xs us Q I r (.inr h)
theorem r_rIntB {i : Bool} (h : Q (.int (if i then 1 else 0)) H) : rIntB [.bl i] H Q := ⟨i, rfl, h⟩
def rAbs : List V → Hp → VK → Prop := fun xs H Q => ∃ i, xs = [.int i] ∧ Q (.int (if i < 0 then -i else i)) H
theorem call_rAbs {X : Cx} : CallR X (.builtin "abs") rAbs := call_abs
theorem r_rAbs {i : Int} (h : Q (.int (if i < 0 then -i else i)) H) : rAbs [.int i] H Q := ⟨i, rfl, h⟩
def rMin2 : List V → Hp → VK → Prop := fun xs H Q => ∃ i j, xs = [.int i, .int j] ∧ Q (.int (if j < i then j else i)) H
theorem call_rMin2 {X : Cx} (hc : X.calm = true := by rfl) : CallR X (.builtin "min") rMin2 := call_min2 hc
theorem r_rMin2 {i j : Int} (h : Q (.int (if j < i then j else i)) H) : rMin2 [.int i, .int j] H Q := ⟨i, j, rfl, h⟩
def rMax2 : List V → Hp → VK → Prop := fun xs H Q => ∃ i j, xs = [.int i, .int j] ∧ Q (.int (if j > i then j else i)) H
theorem call_rMax2 {X : Cx} (hc : X.calm = true := by rfl) : CallR X (.builtin "max") rMax2 := call_max2 hc
theorem r_rMax2 {i j : Int} (h : Q (.int (if j > i then j else i)) H) : rMax2 [.int i, .int j] H Q := ⟨i, j, rfl, h⟩
def rLenQ (K : PySem.W.Frag) : List V → Hp → VK → Prop := fun xs H Q => ∃ p ys, xs = [.ref p] ∧ (SqL K H p ys ∨ SqT K H p ys) ∧ Q (.int ys.length) H
theorem call_rLenQ {X : Cx} : CallR X (.builtin "len") (rLenQ X.K) := call_len_seq
theorem r_rLenQ {p : Addr} {ys : List V} (hp : SqL K H p ys ∨ SqT K H p ys) (h : Q (.int ys.length) H) : rLenQ K [.ref p] H Q := ⟨p, ys, rfl, hp, h⟩
def rLenZ : List V → Hp → VK → Prop := fun xs H Q => ∃ z, xs = [.str z] ∧ z.length ≤ sizeLine ∧ Q (.int z.length) H
theorem call_rLenZ {X : Cx} : CallR X (.builtin "len") rLenZ := call_len_str
theorem r_rLenZ {z : Str} (hz : z.length ≤ sizeLine) (h : Q (.int z.length) H) : rLenZ [.str z] H Q := ⟨z, rfl, hz, h⟩
def rAddZ : R2 := fun x y H Q => ∃ i j, x = .str i ∧ y = .str j ∧ i.length + j.length ≤ sizeLine ∧ Q (.str (i ++ j)) H
theorem op_addZ {X : Cx} : OpR X (binaryOp .Add) rAddZ := op_add_str
theorem r_addZ {i j : Str} (hz : i.length + j.length ≤ sizeLine) (h : Q (.str (i ++ j)) H) : rAddZ (.str i) (.str j) H Q := ⟨i, j, rfl, rfl, hz, h⟩
def rInC : R2 := fun x y H Q => ∃ (c : Nat) (z : Str), x = .str ⟨#[c]⟩ ∧ y = .str z ∧ Q (.bl (decide (c ∈ z.cps.toList))) H
theorem op_inSign {X : Cx} : OpR X (compareOp .In) rInC := op_in_sign
theorem r_inC {c : Nat} {z : Str} (h : Q (.bl (decide (c ∈ z.cps.toList))) H) : rInC (.str ⟨#[c]⟩) (.str z) H Q := ⟨c, z, rfl, rfl, h⟩
theorem r_eq {x y : V} (hs : scal x y = true) (h : Q (.bl (decide (x = y))) H) : rEq x y H Q := ⟨hs, h⟩
theorem r_ne {x y : V} (hs : scal x y = true) (h : Q (.bl (!decide (x = y))) H) : rNe x y H Q := ⟨hs, h⟩
theorem r_cat {l b : Addr} {xs zs : List V} (hl : H l = some (.lst xs)) (hb : H b = some (.lst zs)) (hz : xs.length + zs.length ≤ sizeLine) (h : ∀ p, H p = none → Q (.ref p) (upd H p (.lst (xs ++ zs)))) : rCat (.ref l) (.ref b) H Q := ⟨l, b, xs, zs, rfl, rfl, hl, hb, hz, h⟩
theorem r_rep {l : Addr} {k : Int} {xs : List V} (hl : H l = some (.lst xs)) (h0 : -(2 ^ 63) ≤ k) (h1 : k < 2 ^ 63) (hz : xs.length * k.toNat ≤ sizeLine) (h : ∀ p, H p = none → Q (.ref p) (upd H p (.lst (List.replicate k.toNat xs).flatten))) : rRep (.ref l) (.int k) H Q := ⟨l, k, xs, rfl, rfl, hl, h0, h1, hz, h⟩
theorem r_append {l : Addr} {xs : List V} {y : V} (hl : H l = some (.lst xs)) (hz : xs.length < sizeLine) (h : Q .non (upd H l (.lst (xs ++ [y])))) : rAppend (.ref l) [y] H Q := ⟨l, xs, y, rfl, rfl, hl, hz, h⟩
theorem r_bm {T : String} {r : V → List V → Hp → VK → Prop} {to : TE} {t : TA} (h : to σ H fun x H1 => tyV K T x H1 ∧ t σ H1 fun xs H2 => r x xs H2 Q) : tBM K T r to t σ H Q := h
theorem r_tyL {p : Addr} {xs : List V} {P : Prop} (hp : H p = some (.lst xs)) (h : P) : tyV K "list" (.ref p) H ∧ P := ⟨.inl ⟨rfl, _, SqL.of hp⟩, h⟩
theorem r_all {a : Addr} {bs : List Bool} (hp : SqL K H a (bs.map V.bl)) (h : Q (.bl (bs.all id)) H) : rAll K [.ref a] H Q := ⟨a, bs, rfl, hp, h⟩
theorem r_any {a : Addr} {bs : List Bool} (hp : SqL K H a (bs.map V.bl)) (h : Q (.bl (bs.any id)) H) : rAny K [.ref a] H Q := ⟨a, bs, rfl, hp, h⟩
theorem call_all {X : Cx} (hc : X.calm = true := by rfl) : CallR X (.builtin "all") (rAll X.K) := cr_all hc
theorem call_any {X : Cx} (hc : X.calm = true := by rfl) : CallR X (.builtin "any") (rAny X.K) := cr_any hc
end
end Th
namespace Th
open PySem PySem.Spec PyProof.Rows L2
/-! ### a def that may lean on it that nothing is being shown (repr of a list, a tuple, a dict) -/
structure FnG (P : Program) (w : World) (K : PySem.W.Frag) (mg : Str → Option Value) (base : Heap) (k : Nat) (f : Addr) (fd : FuncData) (ps : List Str) (sp : Sp) : Prop where
  len : ∀ vs H Q E, sp vs H Q E → vs.length = ps.length
  run : ∀ (A : Around) (outer : List Env) (s : Shared) (H : Hp) (args : Args) (us : List Value) (vs : List V) (Q : VK) (E : XK), Room k A → A.guards = some [] →
    Env0 P w K mg base A outer s H → BindsTo s fd args (ps.zip us) → Vals vs us → sp vs H Q E → codeAny (model P w) A (.call (.ref f) args) (CR CX0 outer P w H s Q E) s
section
variable {P : Program} {w : World} {K : PySem.W.Frag} {mg : Str → Option Value} {base : Heap}
theorem Fun.okG {x qual : Str} {st : Stmt} {f : Addr} {fd : FuncData} {N ps : List Str} {k : Nat} {sp : Sp} (F : Fun K x qual st f fd) (S : FnScope N ps (defScope st)) (hlen : ∀ vs H Q E, sp vs H Q E → vs.length = ps.length)
    (body : ∀ (cdv : Value) (A : Around) (outer : List Env) (s : Shared) (H : Hp) (vs : List V) (Q : VK) (E : XK), Room k (A.deeper (envOfC qual (defScope st) s.heap.objs.size f cdv)) → A.guards = some [] → sp vs H Q E →
      ∃ t, PSs (cxOf CX0 P w K mg base N qual (defScope st) f cdv A outer s H E).nox (defBody st) t ∧ t { nx := fun _ H' => Q .non H', rt := Q } (start N vs) H) : FnG P w K mg base (k + 1) f fd ps sp := by
  obtain ⟨oc, od, kV, doc, pm, an, cdv, ct, osl, e, lk, hcd⟩ := F.ex
  subst e
  constructor
  · exact hlen
  · intro A outer s H args us vs Q E room gd env0 bnd rel wish
    have stands : ∀ b o, base.get? b = some o → s.heap.get? b = some o := fun b o e => (env0.bs b o e).1
    have kin := env0.mod.kin.keeps stands
    have nol := env0.mod.nolimit.keeps stands
    apply codeAny_call_function room.depth (kin _ _ lk) rfl S.co S.gen rfl (PySem.W.codeRec_of kin hcd)
    refine bnd _ _ _ _ (wpAny_newFunctionEnv_cells S.kind ?kinds ?go)
    case kinds =>
      rintro ⟨n, v⟩ hy
      cases S.par n (List.of_mem_zip hy).1 with
      | inl q => exact Or.inl q
      | inr q => exact Or.inr ⟨q, PySem.W.cellsFrom_some _ _ _ (Or.inl q)⟩
    case go =>
      intro env he s1 inside
      subst he
      refine ⟨nol.keeps inside.toInCall.keep, codeAny_func ?_⟩
      obtain ⟨t, derived, wished⟩ := body cdv A outer s H vs Q E (room.deeper _) gd wish
      have J := inv_start (CX := CX0) (E := E) S room.hd env0 (hlen _ _ _ _ wish) rel inside
      refine wpAny_mono (derived.nox.run [] s1 _ H _ J wished) ?_ (fun e s' z => z)
      intro fl s' z
      cases fl with
      | next =>
        obtain ⟨σ', H', J', q⟩ := z
        exact ⟨V.non, H', J'.os, J'.bare, J'.base, J'.hok, rfl, q⟩
      | ret u =>
        obtain ⟨v, σ', H', J', rv, q⟩ := z
        exact ⟨v, H', J'.os, J'.bare, J'.base, J'.hok, rv, q⟩
      | brk =>
        obtain ⟨_, _, _, q⟩ := z
        exact q.elim
      | cont =>
        obtain ⟨_, _, _, q⟩ := z
        exact q.elim
/-- the law's own call -/
theorem lawG {k : Nat} {mb : Str → Option Value} {fa a : Addr} {fd : FuncData} {x : Str} {sp : Sp} {s₁ : Shared} {vs : List Value} {ns : List Int}
    (KX : K.In s₁.heap) (hns : s₁.heap.Ns mainGlobals mg) (hb : s₁.heap.Ns builtinsNs mb) (hbb : ∀ x : Str, x ≠ "__name__" → mb x = bootBuiltins x) (hlim : s₁.heap.NoLimit) (hg : s₁.gens = #[])
    (ha : s₁.heap.get? a = some { cls := .type "list", data := .seq vs.toArray }) (hi : IntsAre vs ns) (hl : ns.length ≤ sizeLine) (room : Room k callerA)
    (F : ∀ base : Heap, K.In base → base.Ns mainGlobals mg → FnG P w K mg base k fa fd [x] sp) (hbind : ∀ (s : Shared) (u : Value), BindsTo s fd ⟨[u], []⟩ [(x, u)])
    (hsp : ∀ H : Hp, Only H → SqL K H a (ns.map V.int) → sp [.ref a] H (fun v _ => v = .bl true) fun _ _ _ => False) :
    codeAny (model P w) callerA (.call (.ref fa) ⟨[.ref a], []⟩) (fun r s' => r = .ok (.ret (.bool true)) ∧ OldK s₁.heap s'.heap ∧ s'.os = s₁.os ∧ AllBare s'.gens) s₁ := by
  have rv : Vals (ns.map V.int) vs := vals_ints hi
  have hlen : vs.length = ns.length := by have := rv.length; rw [List.length_map] at this; omega
  have main : ∀ H : Hp, Only H → SqL K H a (ns.map V.int) → HOk P w H s₁.heap → (∀ b u, H b = some u → b = a) → (∀ u, H a = some u → K.lookup a = none) →
      codeAny (model P w) callerA (.call (.ref fa) ⟨[.ref a], []⟩) (fun r s' => r = .ok (.ret (.bool true)) ∧ OldK s₁.heap s'.heap ∧ s'.os = s₁.os ∧ AllBare s'.gens) s₁ := by
    intro H only sq hok onlyA notK
    have dictFree : ∀ (b : Addr) (o : Obj) (es : Array DictEntry) (ep : Nat), s₁.heap.get? b = some o → o.data = .dict es ep → H b = none := by
      intro b o es ep ho hd
      cases hq : H b with
      | none => rfl
      | some u =>
        rw [onlyA b u hq, ha] at ho
        cases ho
        exact nomatch hd
    have nsB : ∀ {b : Addr} {m : Str → Option Value}, s₁.heap.Ns b m → (hidT s₁.heap H).Ns b m := by
      rintro b m ⟨o, es, ep, ho, hd, rest⟩
      exact ⟨o, es, ep, hidT_get ho (dictFree b o es ep ho hd), hd, rest⟩
    have kB : K.In (hidT s₁.heap H) := by
      intro b o ho
      refine hidT_get (KX b o ho) ?_
      cases hq : H b with
      | none => rfl
      | some u =>
        have hba := onlyA b u hq
        rw [hba] at ho hq
        rw [notK u hq] at ho
        cases ho
    obtain ⟨mc, lim1, lim2⟩ := hlim
    have modl : Mod K mg (hidT s₁.heap H) := ⟨kB, nsB hns, ⟨mb, nsB hb, hbb⟩, ⟨mc, nsB lim1, lim2⟩⟩
    have noFr : ∀ b ∈ frs [], H b = none := fun b z => by cases z
    have E0' : Env0 P w K mg (hidT s₁.heap H) callerA [] s₁ H := ⟨rfl, modl, fun b o e => of_hidT e, by rw [hidT_size]; exact Nat.le_refl _, trivial, noFr, hok, .of_eq hg⟩
    have ran := (F _ kB (nsB hns)).run callerA [] s₁ H ⟨[.ref a], []⟩ [.ref a] [.ref a] _ _ room rfl E0' (hbind s₁ (.ref a)) (.cons rfl .nil) (hsp H only sq)
    refine codeAny_mono ran ?_
    intro r s' z
    cases r with
    | error e => exact False.elim z
    | ok fl =>
      cases fl with
      | ret u =>
        obtain ⟨v, H', os, bare, un, hok', rel, isT⟩ := z
        have isT' : v = .bl true := isT
        rw [isT'] at rel
        have hu : u = Value.bool true := rel
        refine ⟨by rw [hu], OldK.of_keep ?_, os, bare⟩
        intro b o ho
        cases hq : H b with
        | none => exact un.keep b o ho hq (fun z => by cases z) (fun z => by cases z)
        | some u2 =>
          cases only b with
          | inl z => rw [hq] at z; cases z
          | inr z =>
            obtain ⟨ob, xs, z⟩ := z
            have ⟨g1, _⟩ := hok b _ z
            have ⟨g2, _⟩ := hok' b _ (un.frzs b ob _ z)
            rw [ho] at g1
            cases g1
            exact g2
      | next => exact False.elim z
      | brk => exact False.elim z
      | cont => exact False.elim z
  by_cases hk : K.lookup a = none
  · let script : HO := .frz { cls := .type "list", data := .seq vs.toArray } (.lst (ns.map V.int))
    have atA : ∀ b u, (if b = a then some script else none) = some u → b = a ∧ u = script := by
      intro b u z
      by_cases e : b = a
      · rw [if_pos e] at z; cases z; exact ⟨e, rfl⟩
      · rw [if_neg e] at z; cases z
    refine main (fun b => if b = a then some script else none) ?_ (.inl (.inr ⟨_, if_pos rfl⟩)) ?_ (fun b u z => (atA b u z).1) (fun _ _ => hk)
    · intro b
      by_cases e : b = a
      · exact .inr ⟨_, _, if_pos e⟩
      · exact .inl (if_neg e)
    · intro b u z
      obtain ⟨e1, e2⟩ := atA b u z
      rw [e1, e2]
      exact ⟨ha, by rw [List.length_map]; exact hl, vs, _, rv, ha⟩
  · obtain ⟨o, ho⟩ : ∃ o, K.lookup a = some o := by
      cases q : K.lookup a with
      | none => exact absurd q hk
      | some o => exact ⟨o, rfl⟩
    have same := KX a o ho
    rw [ha] at same
    cases same
    exact main (fun _ => none) (fun _ => .inl rfl) (.inr ⟨_, vs.toArray, _, ho, rfl, rfl, rfl, by rw [List.size_toArray, hlen]; exact hl, rv⟩) (fun b u z => nomatch z) (fun b u z => nomatch z) (fun u z => nomatch z)
end
/-- the goal that k_head leaves, from the law's promise -/
theorem walkG {l : PySem.W.OpenLaw} {n k : Nat} {q : Program} {loose : List Str} {XP : (Str → Option Value) → Heap → Prop} {YP : World → Heap → Prop} {d : DefRec} {K : Params → PySem.W.Frag} {sp : World → Sp} {x : Str}
    (hn : l.most = some n) (hn2 : n ≤ sizeLine) (hdf : d.params.defaults = []) (room : Room k callerA) (hY : ∀ (w : World) (h : Heap), YP w h → (K w.params).In h)
    (F : ∀ (w : World) (mg : Str → Option Value) (fa : Addr) (h : Heap), (K w.params).In h → h.Ns mainGlobals mg → mg d.name = some (.ref fa) →
      ∃ fd : FuncData, (∀ (s : Shared) (u : Value), BindsTo s fd ⟨[u], []⟩ [(x, u)]) ∧ ∀ base : Heap, (K w.params).In base → base.Ns mainGlobals mg → FnG l.prog w (K w.params) mg base k fa fd [x] (sp w))
    (hsp : ∀ (w : World) (H : Hp) (a : Addr) (ns : List Int), ns.length ≤ n → Only H → SqL (K w.params) H a (ns.map V.int) → sp w [.ref a] H (fun v _ => v = .bl true) fun _ _ _ => False) :
    PySem.W.WalkO q loose XP YP l.row.toRowW d [] (fun f vs => PySem.call f vs) := by
  apply Att.attach_call hn hdf
  intro w s₀ s₁ mg mb fa o pm cd doc a vs ns G Y ho hd hcd hmg hobj hints hlen hg
  obtain ⟨fd, bnd, every⟩ := F w mg fa _ (hY w _ Y) G.T.g hmg
  exact lawG (hY w _ Y) G.T.g G.T.b G.T.builtins G.T.nolimit hg hobj hints (Nat.le_trans hlen hn2) room every bnd (fun H only sq => hsp w H a ns hlen only sq)
/-! ### repr of data -/
def rRepr (K : PySem.W.Frag) : List V → Hp → VK → Prop := fun xs H Q => ∃ a d, xs = [.ref a] ∧ Dp K H (.ref a) d ∧ d.showable = true ∧ d.hasDict = false ∧ d.depth < 60 ∧ d.shown.length ≤ sizeLine ∧ Q (.str d.shown) H
theorem call_rRepr {X : Cx} (gd : X.A.guards = some []) (hu : X.A.units + 64 < cLine) : CallR X (.builtin "repr") (rRepr X.K) := by
  intro pins s σ H xs us Q I r h
  obtain ⟨a, d, rfl, hd, h1, h2, h3, h4, q⟩ := h
  obtain ⟨u, rfl, rx⟩ := vals1 r
  obtain ⟨as, rd⟩ := Dp.reads I d _ u hd rx
  have hu' : u = Value.ref a := rx
  subst hu'
  refine repr_of_reads' rd h1 (fun z => by rw [h2] at z; cases z) gd (by omega) (fun b o e => e) (fun h' t tk kept => ?_) h4
  exact ⟨.str d.shown, H, I.kept kept, ⟨_, rfl⟩, q⟩
theorem r_repr {K : PySem.W.Frag} {H : Hp} {Q : VK} {a : Addr} {d : PyData} (hd : Dp K H (.ref a) d) (h1 : d.showable = true) (h2 : d.hasDict = false) (h3 : d.depth < 60) (h4 : d.shown.length ≤ sizeLine) (h : Q (.str d.shown) H) : rRepr K [.ref a] H Q := ⟨a, d, rfl, hd, h1, h2, h3, h4, h⟩
/-! ### a text times an int -/
theorem fold_rep (a : Array Nat) : ∀ (n : Nat) (acc : Array Nat), ((List.replicate n a).foldl (· ++ ·) acc).toList = acc.toList ++ (List.replicate n a.toList).flatten
  | 0, acc => by simp
  | n + 1, acc => by
    rw [List.replicate_succ, List.foldl_cons, fold_rep a n, List.replicate_succ, List.flatten_cons, Array.toList_append, List.append_assoc]
theorem fold_rep_size (a : Array Nat) (n : Nat) : ((List.replicate n a).foldl (· ++ ·) #[]).size = n * a.size := by
  have h := congrArg List.length (fold_rep a n #[])
  simpa using h
def repZ (z : Str) (k : Int) : Str := if k < 1 then Str.empty else if (k == 1 || z.length == 0) = true then z else ⟨(List.replicate k.toNat z.cps).foldl (· ++ ·) #[]⟩
def rMulZ : R2 := fun x y H Q => ∃ z k, x = .str z ∧ y = .int k ∧ z.length ≤ 1000 ∧ -(2 ^ 62) ≤ k ∧ k ≤ 5000 ∧ Q (.str (repZ z k)) H
theorem op_mulS {X : Cx} : OpR X (binaryOp .Mult) rMulZ := by
  intro pins s σ H x y v u Q I rx ry h
  obtain ⟨z, k, rfl, rfl, hz, h0, h1, q⟩ := h
  obtain ⟨t, rfl⟩ := rx
  obtain ⟨t', rfl⟩ := ry
  have hzi : (z.length : Int) ≤ 1000 := by omega
  refine PySem.P.mul_str ?_ (fun hk _ => ?_) (fun hk _ => ?_) ?_
  · rw [decide_eq_false (by omega : ¬ k < -(2 ^ 63 : Int)), decide_eq_false (by omega : ¬ k ≥ 2 ^ 63)]; rfl
  · intro hbig
    have hd : (5000 : Int) ≤ (2 ^ 63 - 1) / k := by
      rw [Int.le_ediv_iff_mul_le (by omega)]
      have : (5000 : Int) * k ≤ 5000 * 5000 := Int.mul_le_mul_of_nonneg_left h1 (by decide)
      omega
    omega
  · unfold Builtin.Str.tooLong
    rw [decide_eq_false]
    have hk5 : k.toNat ≤ 5000 := by omega
    have := Nat.mul_le_mul hz hk5
    rw [sizeLine_eq]
    omega
  · unfold repZ at q
    by_cases c1 : k < 1
    · rw [if_pos c1] at q ⊢
      exact ⟨by decide, ⟨.str _, H, I.tok _, ⟨_, rfl⟩, q⟩⟩
    · rw [if_neg c1] at q ⊢
      by_cases c2 : (k == 1 || z.length == 0) = true
      · rw [if_pos c2] at q ⊢
        exact ⟨.str z, H, I, ⟨t, rfl⟩, q⟩
      · rw [if_neg c2] at q ⊢
        refine ⟨?_, ⟨.str _, H, I.tok _, ⟨_, rfl⟩, q⟩⟩
        show ((List.replicate k.toNat z.cps).foldl (· ++ ·) #[]).size ≤ sizeLine
        rw [fold_rep_size]
        have hk5 : k.toNat ≤ 5000 := by omega
        have hz' : z.cps.size ≤ 1000 := hz
        have := Nat.mul_le_mul hk5 hz'
        rw [sizeLine_eq]
        omega
theorem repZ_list (z : Str) (k : Int) : (repZ z k).cps.toList = (List.replicate k.toNat z.cps.toList).flatten := by
  unfold repZ
  by_cases c1 : k < 1
  · rw [if_pos c1, show k.toNat = 0 by omega]; rfl
  · rw [if_neg c1]
    by_cases c2 : (k == 1 || z.length == 0) = true
    · rw [if_pos c2]
      simp only [Bool.or_eq_true, beq_iff_eq] at c2
      rcases c2 with c2 | c2
      · subst c2; simp
      · have e : z.cps.toList = [] := by
          have : z.cps.size = 0 := c2
          simpa using this
        rw [e]; simp
    · rw [if_neg c2]
      show ((List.replicate k.toNat z.cps).foldl (· ++ ·) #[]).toList = _
      rw [fold_rep]; rfl
theorem repZ_len (z : Str) (k : Int) : (repZ z k).length = k.toNat * z.length := by
  have h := congrArg List.length (repZ_list z k)
  simpa [Str.length] using h
theorem r_mulZ {H : Hp} {Q : VK} {z : Str} {k : Int} (hz : z.length ≤ 1000) (h0 : -(2 ^ 62) ≤ k) (h1 : k ≤ 5000) (h : Q (.str (repZ z k)) H) : rMulZ (.str z) (.int k) H Q := ⟨z, k, rfl, rfl, hz, h0, h1, h⟩
/-! ### comprehensions without a test, whose element only reads (and makes) -/
theorem same_new {H : Hp} {p : Addr} {o : HO} (h : H p = none) : Same H (upd H p o) := fun b u e => by rw [upd_ne (ne_of_none e h)]; exact e
theorem walk_strC {z : Str} : Walk (Its z) (z.cps.toList.map fun c => V.str ⟨#[c]⟩).length (fun _ => True) (YAt (z.cps.toList.map fun c => V.str ⟨#[c]⟩)) := by
  have e : (z.cps.toList.map fun c => V.str ⟨#[c]⟩).length = z.cps.size := by simp
  rw [e]
  refine walk_str.mono (fun _ h => h) ?_
  rintro i H x H' hi _ ⟨e1, c, hc, rfl⟩
  refine ⟨e1, ?_⟩
  rw [List.getElem?_map, Array.getElem?_toList, hc]
  rfl
theorem lc_map {α : Type} {J : It} {cs : List α} {enc f : α → V} {G : Hp → Prop} (w : Walk J (cs.map enc).length G (YAt (cs.map enc))) {j : Nat} {vs : List Nat} {σ : L2.St} {H1 : Hp} {D : Addr} {te : TE} {Qd : Hp → Prop}
    (hD : H1 D = none) (hz : cs.length < sizeLine) (hG : ∀ H', Same H1 H' → G H') (hw : ∀ x, wipe ((wipe σ vs).set j (some x)) vs = wipe σ vs)
    (he : ∀ c ∈ cs, ∀ H', Same H1 H' → ∀ Q : VK, (∀ H2, Same H' H2 → Q (f c) H2) → te ((wipe σ vs).set j (some (enc c))) H' Q)
    (hd : ∀ H', Same H1 H' → H' D = some (.lst (cs.map f)) → Qd H') :
    ∃ W : Nat → Nat → Hp → Prop, (∃ m, W 0 m (upd H1 D (.lst []))) ∧ ∀ i m H, W i m H →
      (J.stop i H ∧ Qd H) ∨ (J.go i H ∧ ∃ Nx : Hp → Prop, (∀ H', Nx H' → ∃ m', m' < m ∧ W (i + 1) m' H') ∧ ∀ x H', J.yld i H x H' → gName j x (wipe σ vs) H' fun σ2 H2 => wipe σ2 vs = wipe σ vs ∧ tYes σ2 H2 fun b H3 =>
        if b = true then te σ2 H3 fun y H4 => ∃ acc, H4 D = some (.lst acc) ∧ acc.length < sizeLine ∧ Nx (upd H4 D (.lst (acc ++ [y]))) else Nx H3) := by
  refine lc_it w (fun i H => Same H1 H ∧ H D = some (.lst ((cs.take i).map f))) ⟨same_new hD, by rw [upd_same]; rfl⟩ (fun i H _ p => hG H p.1) ?_ ?_
  · rintro i x H H' hi ⟨s1, hl⟩ ⟨rfl, hx⟩
    rw [List.length_map] at hi
    have hx' : x = enc cs[i] := by
      rw [List.getElem?_map, List.getElem?_eq_getElem hi] at hx
      exact (Option.some.inj hx).symm
    subst hx'
    refine ⟨hw _, ?_⟩
    unfold tYes
    dsimp only
    rw [if_pos rfl]
    refine he cs[i] (List.getElem_mem hi) H' s1 _ ?_
    intro H2 s2
    refine ⟨_, s2 _ _ hl, ?_, ?_, ?_⟩
    · rw [List.length_map, List.length_take]; omega
    · intro b o e
      have nb : b ≠ D := ne_of_none e hD
      rw [upd_ne nb]
      exact s2 _ _ (s1 _ _ e)
    · rw [upd_same, ← List.take_append_getElem hi, List.map_append]
      rfl
  · rintro H ⟨s1, hl⟩
    rw [List.length_map, List.take_length] at hl
    exact hd H s1 hl
/-! ### isinstance of values of built-in types -/
theorem r_isi {K : PySem.W.Frag} {H : Hp} {Q : VK} {x : V} {T n : String} (b : Bool) (ht : TyX K H x (.type T)) (hk : kitB T n = some b) (h : Q (.bl b) H) : rIsi K [x, .ty n] H Q := ⟨x, .ty n, .type T, .type n, b, rfl, .ty n, ht, kit_ty hk, h⟩
theorem r_isiT2 {K : PySem.W.Frag} {H : Hp} {Q : VK} {x : V} {T n m : String} {tp : Addr} (b c : Bool) (hT : H tp = some (.tup [.ty n, .ty m])) (ht : TyX K H x (.type T)) (hk : kitB T n = some b) (hk2 : kitB T m = some c) (h : Q (.bl (b || c)) H) : rIsiT K [x, .ref tp] H Q := by
  refine ⟨x, tp, _, .type T, [.type n, .type m], (b || c), rfl, hT, .cons (.ty n) (.cons (.ty m) .nil), ht, ?_, h⟩
  refine kitAny_cons (b := b) (kit_ty hk) (fun e => ?_) (fun e => by rw [e]; rfl)
  refine kitAny_cons (b := c) (kit_ty hk2) (fun e2 => ?_) (fun e2 => by rw [e2]; simp)
  rw [e, e2]
  exact kitAny_nil
theorem same_tyB {K : PySem.W.Frag} {H H' : Hp} {x : V} {t : Value} (e : Same H H') (h : TyX K H x t) : TyX K H' x t := by
  cases h with
  | base b =>
    cases b with
    | non => exact .base .non
    | bl y => exact .base (.bl y)
    | int y => exact .base (.int y)
    | str y => exact .base (.str y)
    | flt y => exact .base (.flt y)
    | lst z => exact .base (.lst (e _ _ z))
    | frz z => exact .base (.frz (e _ _ z))
    | tup z => exact .base (.tup (e _ _ z))
    | dK z => exact .base (.dK (e _ _ z))
    | dT z => exact .base (.dT (e _ _ z))
    | ins z cl ha hn htk hm => exact .base (.ins (e _ _ z) cl ha hn htk hm)
  | byt y => exact .byt y
  | set z => exact .set (e _ _ z)
  | kList z c => exact .kList z c
  | kTuple z c => exact .kTuple z c
  | kDict z c => exact .kDict z c
  | fTuple z => exact .fTuple (e _ _ z)
  | fDict z => exact .fDict (e _ _ z)
theorem r_r1 {H : Hp} {Q : VK} {k : V → Hp → VK → Prop} {x : V} (h : k x H Q) : r1 k [x] H Q := h
theorem r_bytesL {K : PySem.W.Frag} {H : Hp} {Q : VK} {p : Addr} {ns : List Int} (hp : SqL K H p (ns.map V.int)) (hn : ∀ n ∈ ns, 0 ≤ n ∧ n < 256) (h : Q (.byt (byteArr ns)) H) : kByts K (.ref p) H Q := .inr ⟨p, ns, rfl, hp, hn, h⟩
/-! ### walks -/
theorem r_lc {wi : TI} {g : TG} {tt : TT} {te : TE} {vs : List Nat} {σ : L2.St} {H : Hp} {Q : VK} (h : wi σ H fun J H1 => ∀ D, H1 D = none → ∃ W : Nat → Nat → Hp → Prop, (∃ m, W 0 m (upd H1 D (.lst []))) ∧ ∀ i m H, W i m H →
  (J.stop i H ∧ Q (.ref D) H) ∨ (J.go i H ∧ ∃ Nx : Hp → Prop, (∀ H', Nx H' → ∃ m', m' < m ∧ W (i + 1) m' H') ∧ ∀ x H', J.yld i H x H' → g x (wipe σ vs) H' fun σ2 H2 => wipe σ2 vs = wipe σ vs ∧ tt σ2 H2 fun b H3 =>
    if b = true then te σ2 H3 fun y H4 => ∃ acc, H4 D = some (.lst acc) ∧ acc.length < sizeLine ∧ Nx (upd H4 D (.lst (acc ++ [y]))) else Nx H3)) : tLc wi g tt te vs σ H Q := h
theorem r_for {wi : TI} {g : TG} {tb : TS} {D : Ends} {σ : L2.St} {H : Hp} (h : wi σ H fun J H1 => ∃ W : Nat → Nat → L2.St → Hp → Prop, (∃ m, W 0 m σ H1) ∧ ∀ i m σ H, W i m σ H →
  (J.stop i H ∧ D.nx σ H) ∨ (J.go i H ∧ ∃ N : L2.St → Hp → Prop, (∀ σ' H', N σ' H' → ∃ m', m' < m ∧ W (i + 1) m' σ' H') ∧ ∀ x H', J.yld i H x H' → g x σ H' fun σ2 H2 => tb { D with nx := N, ct := N, bk := D.nx } σ2 H2)) : tFor wi g tb D σ H := h
theorem r_iStr {te : TE} {σ : L2.St} {H : Hp} {R : It → Hp → Prop} (h : te σ H fun v H1 => ∃ x, v = .str x ∧ R (Its x) H1) : iStr te σ H R := h
theorem r_strE {z : Str} {P : Str → Prop} (h : P z) : ∃ x, V.str z = .str x ∧ P x := ⟨z, rfl, h⟩
theorem r_iList {K : PySem.W.Frag} {tl : TE} {σ : L2.St} {H : Hp} {R : It → Hp → Prop} (h : tl σ H fun x H1 => ∃ a, x = .ref a ∧ (∃ xs, SqL K H1 a xs) ∧ R (Itl K a) H1) : iList K tl σ H R := h
theorem r_listE {K : PySem.W.Frag} {H : Hp} {a : Addr} {xs : List V} {P : Addr → Prop} (hp : SqL K H a xs) (h : P a) : ∃ b, V.ref a = .ref b ∧ (∃ xs, SqL K H b xs) ∧ P b := ⟨a, rfl, ⟨xs, hp⟩, h⟩
theorem r_iRng1 {ta : TA} {σ : L2.St} {H : Hp} {R : It → Hp → Prop} (h : ta σ H fun vs H1 => ∃ j : Int, vs = [.int j] ∧ -(2 ^ 62) ≤ j ∧ j < 2 ^ 62 ∧ R (Itr 0 j.toNat) H1) : iRng1 ta σ H R := h
theorem r_rngE {j : Int} {P : Int → Prop} (h0 : -(2 ^ 62) ≤ j) (h1 : j < 2 ^ 62) (h : P j) : ∃ i : Int, [V.int j] = [.int i] ∧ -(2 ^ 62) ≤ i ∧ i < 2 ^ 62 ∧ P i := ⟨j, rfl, h0, h1, h⟩
/-! ### texts cut at a sign; in a written tuple -/
def rSplit : V → List V → Hp → VK → Prop := fun x xs H Q => ∃ a b, x = .str a ∧ xs = [.str b] ∧ (b.length == 0) = false ∧ a.length + 2 ≤ sizeLine ∧ rNewStrs (Txt.split a b) H Q
theorem pe_splitN {X : Cx} {E : Expr} {to te : TE} (hst : PE X E (tM1 (fun x xs H Q => ∃ a b, x = .str a ∧ xs = [.str b] ∧ (b.length == 0) = false ∧ a.length + 2 ≤ sizeLine ∧ rNewStrs (Txt.split a b) H Q) to te)) : PE X E (tM1 rSplit to te) := hst
section
variable {K : PySem.W.Frag} {σ : L2.St} {H : Hp} {Q : VK}
theorem r_m1 {r : V → List V → Hp → VK → Prop} {to te : TE} (h : to σ H fun x H1 => (∃ a, x = .str a) ∧ te σ H1 fun y H2 => r x [y] H2 Q) : tM1 r to te σ H Q := h
theorem r_isZ {z : Str} {P : Prop} (h : P) : (∃ a, V.str z = .str a) ∧ P := ⟨⟨z, rfl⟩, h⟩
theorem r_split {a b : Str} (hb : (b.length == 0) = false) (ha : a.length + 2 ≤ sizeLine) (h : ∀ p, H p = none → Q (.ref p) (upd H p (.lst ((Txt.split a b).map V.str)))) : rSplit (.str a) [.str b] H Q := ⟨a, b, rfl, rfl, hb, ha, h⟩
theorem r_inT {p : Addr} {x : V} {xs : List V} (hp : SqT K H p xs) (hx : flatV x = true) (ha : xs.all flatV = true) (h : Q (.bl (inV x xs)) H) : rIn K false x (.ref p) H Q := ⟨p, xs, rfl, .inr hp, hx, ha, h⟩
theorem r_inL {p : Addr} {x : V} {xs : List V} (hp : SqL K H p xs) (hx : flatV x = true) (ha : xs.all flatV = true) (h : Q (.bl (inV x xs)) H) : rIn K false x (.ref p) H Q := ⟨p, xs, rfl, .inl hp, hx, ha, h⟩
theorem r_slS {z : Str} {lo hi : Option Int} (hz : z.length ≤ sizeLine) (h : Q (.str (cutS z lo hi)) H) : rSlS (.str z) lo hi H Q := ⟨z, rfl, hz, h⟩
theorem r_sl {r : V → Option Int → Option Int → Hp → VK → Prop} {te : TE} {tl th : TO} (h : te σ H fun x H1 => tl σ H1 fun l H2 => th σ H2 fun u H3 => r x l u H3 Q) : tSl r te tl th σ H Q := h
theorem r_noPart {Q : Option Int → Hp → Prop} (h : Q none H) : tNoPart σ H Q := h
theorem r_part {t : TE} {Q : Option Int → Hp → Prop} (h : t σ H fun x H1 => ∃ i, x = .int i ∧ Q (some i) H1) : tPart t σ H Q := h
theorem r_partE {i : Int} {P : Int → Prop} (h : P i) : ∃ j, V.int i = .int j ∧ P j := ⟨i, rfl, h⟩
theorem r_ixS {z : Str} {i : Int} {c : Nat} (hz : z.length ≤ sizeLine) (hc : atI z.cps.toList i = some c) (h : Q (.str ⟨#[c]⟩) H) : rIxS (.str z) (.int i) H Q := ⟨z, i, c, rfl, rfl, hz, hc, h⟩
end
/-! ### rules that lean on the written part, with it told -/
theorem op_inK {X : Cx} (K : PySem.W.Frag) (h : X.K = K := by rfl) : OpR X (compareOp .In) (rIn K false) := h ▸ op_in_seq
theorem op_notInK {X : Cx} (K : PySem.W.Frag) (h : X.K = K := by rfl) : OpR X (compareOp .NotIn) (rIn K true) := h ▸ op_notIn_seq
theorem ix_listK {X : Cx} (K : PySem.W.Frag) (h : X.K = K := by rfl) : IxR X (rIxL K) := h ▸ ix_list
theorem ix_tupK {X : Cx} (K : PySem.W.Frag) (h : X.K = K := by rfl) : IxR X (rIxT K) := h ▸ ix_tup
theorem call_lenK {X : Cx} (K : PySem.W.Frag) (h : X.K = K := by rfl) : CallR X (.builtin "len") (rLenQ K) := h ▸ call_rLenQ
theorem call_isiK1 {X : Cx} (K : PySem.W.Frag) (h : X.K = K := by rfl) : CallR X (.builtin "isinstance") (rIsi K) := h ▸ call_isi
theorem call_isiK2 {X : Cx} (K : PySem.W.Frag) (h : X.K = K := by rfl) : CallR X (.builtin "isinstance") (rIsiT K) := h ▸ call_isiT
theorem call_allK {X : Cx} (K : PySem.W.Frag) (hc : X.calm = true := by rfl) (h : X.K = K := by rfl) : CallR X (.builtin "all") (rAll K) := h ▸ cr_all hc
theorem call_anyK {X : Cx} (K : PySem.W.Frag) (hc : X.calm = true := by rfl) (h : X.K = K := by rfl) : CallR X (.builtin "any") (rAny K) := h ▸ cr_any hc
theorem call_reprK {X : Cx} (K : PySem.W.Frag) (gd : X.A.guards = some []) (hu : X.A.units + 64 < cLine) (h : X.K = K := by rfl) : CallR X (.builtin "repr") (rRepr K) := h ▸ call_rRepr gd hu
theorem sl_listK {X : Cx} (K : PySem.W.Frag) (h : X.K = K := by rfl) : SlR X (rSlL K) := h ▸ sl_list
/-! ### two ways to one int, joined -/
theorem r_joinI {σ σ' : L2.St} {H : Hp} {Q : VK} {ta tb : TE} {p : Prop} [Decidable p] (P : Int → Prop) (k : ∀ c : Int, P c → Q (.int c) H) (h1 : ∀ Q' : VK, (∀ c : Int, P c → Q' (.int c) H) → p → ta σ H Q') (h2 : ∀ Q' : VK, (∀ c : Int, P c → Q' (.int c) H) → ¬ p → tb σ' H Q') : if decide p = true then ta σ H Q else tb σ' H Q :=
  r_iteD (h1 Q k) (h2 Q k)
/-! ### several names at once; slices; whiles -/
section
variable {K : PySem.W.Frag} {σ : L2.St} {H : Hp} {Q : VK} {D : Ends}
theorem r_par {i j : Nat} {ta : TA} (h : ta σ H fun vs H1 => ∃ v w, vs = [v, w] ∧ D.nx ((σ.set i (some v)).set j (some w)) H1) : tPar i j ta D σ H := h
theorem r_pair {v w : V} {P : V → V → Prop} (h : P v w) : ∃ a b, [v, w] = [a, b] ∧ P a b := ⟨v, w, rfl, h⟩
theorem r_par3 {i j l : Nat} {ta : TA} (h : ta σ H fun vs H1 => ∃ u v w, vs = [u, v, w] ∧ D.nx (((σ.set i (some u)).set j (some v)).set l (some w)) H1) : tPar3 i j l ta D σ H := h
theorem r_trip {u v w : V} {P : V → V → V → Prop} (h : P u v w) : ∃ a b c, [u, v, w] = [a, b, c] ∧ P a b c := ⟨u, v, w, rfl, h⟩
theorem r_gtup {n : Nat} {t : TGs} {p : Addr} {xs : List V} {Q : L2.St → Hp → Prop} (hp : SqT K H p xs) (hn : xs.length = n) (h : t xs σ H Q) : gTup K n t (.ref p) σ H Q := ⟨p, xs, rfl, hp, hn, h⟩
theorem r_gcons {t : TG} {u : TGs} {v : V} {r : List V} {Q : L2.St → Hp → Prop} (h : t v σ H fun σ' H' => u r σ' H' Q) : gCons t u (v :: r) σ H Q := ⟨v, r, rfl, h⟩
theorem r_gnil {Q : L2.St → Hp → Prop} (h : Q σ H) : gNil [] σ H Q := ⟨rfl, h⟩
theorem r_slL {p : Addr} {xs : List V} {lo hi : Option Int} (hp : SqL K H p xs) (h : ∀ q, H q = none → Q (.ref q) (upd H q (.lst (cutV xs lo hi)))) : rSlL K (.ref p) lo hi H Q := ⟨p, xs, rfl, hp, h⟩
theorem r_iTup {tl : TE} {R : It → Hp → Prop} (h : tl σ H fun x H1 => ∃ a, x = .ref a ∧ (∃ xs, SqT K H1 a xs) ∧ R (Itt K a) H1) : iTup K tl σ H R := h
theorem r_tupE {a : Addr} {xs : List V} {P : Addr → Prop} (hp : SqT K H a xs) (h : P a) : ∃ b, V.ref a = .ref b ∧ (∃ xs, SqT K H b xs) ∧ P b := ⟨a, rfl, ⟨xs, hp⟩, h⟩
end
theorem walk_rangeN {n : Nat} : Walk (Itr 0 n) ((List.range n).map fun (i : Nat) => V.int (i : Int)).length (fun _ => True) (YAt ((List.range n).map fun (i : Nat) => V.int (i : Int))) := by
  have e : ((List.range n).map fun (i : Nat) => V.int (i : Int)).length = n := by simp
  rw [e]
  refine (walk_range (lo := 0) (n := n)).mono (fun _ h => h) ?_
  rintro i H x H' hi _ ⟨e1, e2⟩
  refine ⟨e1, ?_⟩
  rw [List.getElem?_map, List.getElem?_range hi, e2]
  simp
/-- a while by a number that falls; the body is read for any next N -/
theorem r_while {c : TT} {tb : TS} {D : Ends} {σ : L2.St} {H : Hp} (W : Nat → L2.St → Hp → Prop) (m0 : Nat) (h0 : W m0 σ H)
    (hs : ∀ m σ H, W m σ H → ∀ N : L2.St → Hp → Prop, (∀ m' σ' H', m' < m → W m' σ' H' → N σ' H') → c σ H fun b H1 => if b = true then tb { D with nx := N, ct := N, bk := D.nx } σ H1 else D.nx σ H1)
    (mono : ∀ σ H (Q Q' : Bool → Hp → Prop), (∀ b H1, Q b H1 → Q' b H1) → c σ H Q → c σ H Q') : tWhile c tb D σ H := by
  refine ⟨W, ⟨m0, h0⟩, fun m σ H w => ?_⟩
  refine mono σ H _ _ (fun b H1 q => ?_) (hs m σ H w (fun σ' H' => ∃ m', m' < m ∧ W m' σ' H') (fun m' σ' H' l w' => ⟨m', l, w'⟩))
  cases b with
  | true =>
    rw [if_pos rfl] at q ⊢
    exact ⟨_, fun σ' H' z => z, q⟩
  | false =>
    rw [if_neg Bool.false_ne_true] at q ⊢
    exact q
theorem pg_tupK {X : Cx} (K : PySem.W.Frag) {T : Expr} {n : Nat} {t : TGs} (h : PG X T (gTup X.K n t)) (hK : X.K = K := by rfl) : PG X T (gTup K n t) := hK ▸ h
def rLenY : List V → Hp → VK → Prop := fun xs H Q => ∃ y : Array UInt8, xs = [.byt y] ∧ y.size ≤ sizeLine ∧ Q (.int y.size) H
theorem call_rLenY {X : Cx} : CallR X (.builtin "len") rLenY := fun pins s σ H xs us Q I r h => by
  obtain ⟨y, rfl, hz, q⟩ := h
  exact call_len pins s σ H _ us Q I r ⟨.byt y, y.size, rfl, (show y.size ≤ sizeLine ∧ y.size = y.size from ⟨hz, rfl⟩), q⟩
theorem r_rLenY {H : Hp} {Q : VK} {y : Array UInt8} (hz : y.size ≤ sizeLine) (h : Q (.int y.size) H) : rLenY [.byt y] H Q := ⟨y, rfl, hz, h⟩
/-! ### defs with keyword-only parameters; attributes -/
theorem funD_ok0 {P : Program} {w : World} {K : PySem.W.Frag} {mg : Str → Option Value} {base : Heap} {x qual : Str} {params : Arguments} {body : List Stmt} {scope : Scope} {dvs : List V} {kws : List (Str × V)} {f : Addr} {fd : FuncData} {N ps : List Str} {k : Nat} {sp : Sp}
    (F : FunD K x qual params body scope dvs kws f fd) (S : FnScope N ps scope) (len : ∀ vs H Q E, sp vs H Q E → vs.length = ps.length)
    (told : ∀ (cdv : Value) (A : Around) (outer : List Env) (s : Shared) (H : Hp) (vs : List V) (Q : VK) (E : XK), Room k (A.deeper (envOfC qual scope s.heap.objs.size f cdv)) → sp vs H Q E →
      ∃ t, PSs (cxOf CX0 P w K mg base N qual scope f cdv A outer s H E).nox body t ∧ t { nx := fun _ H' => Q .non H', rt := Q } (start N vs) H) : FnOk P w K mg base CX0 (k + 1) f fd ps sp :=
  F.ok S len fun cdv A outer s H vs Q E hr h => by
    obtain ⟨t, d, q⟩ := told cdv A outer s H vs Q E hr h
    exact ⟨t, d.nox, q⟩
section
variable {K : PySem.W.Frag} {σ : L2.St} {H : Hp} {Q : VK} {D : Ends}
theorem r_sfld {ta tv : TE} {f : Str} (h : tv σ H fun y H1 => ta σ H1 fun x H2 => ∃ a C dx fs, x = .ref a ∧ H2 a = some (.ins C dx fs) ∧ Cls K C ∧ NoAttr K C f ∧ fs.length < 1000 ∧ D.nx σ (upd H2 a (.ins C dx (putF f y fs)))) : sFld K ta tv f D σ H := h
theorem r_sfldE {p C dx : Addr} {fs : List (Str × V)} {f : Str} {R : Addr → Addr → Addr → List (Str × V) → Prop} (hp : H p = some (.ins C dx fs)) (hc : Cls K C) (hn : NoAttr K C f) (hl : fs.length < 1000) (h : R p C dx fs) :
    ∃ a C dx fs, V.ref p = .ref a ∧ H a = some (.ins C dx fs) ∧ Cls K C ∧ NoAttr K C f ∧ fs.length < 1000 ∧ R a C dx fs := ⟨p, C, dx, fs, rfl, hp, hc, hn, hl, h⟩
theorem r_fld {te : TE} {f : Str} (h : te σ H fun x H1 => ∃ a C dx fs v, x = .ref a ∧ H1 a = some (.ins C dx fs) ∧ Cls K C ∧ NoAttr K C f ∧ fs.lookup f = some v ∧ Q v H1) : tFld K te f σ H Q := h
theorem r_fldE {p C dx : Addr} {fs : List (Str × V)} {f : Str} {v : V} {R : V → Prop} (hp : H p = some (.ins C dx fs)) (hc : Cls K C) (hn : NoAttr K C f) (hl : fs.lookup f = some v) (h : R v) :
    ∃ a C dx fs v, V.ref p = .ref a ∧ H a = some (.ins C dx fs) ∧ Cls K C ∧ NoAttr K C f ∧ fs.lookup f = some v ∧ R v := ⟨p, C, dx, fs, v, rfl, hp, hc, hn, hl, h⟩
end
/-! ### f-strings; repr of an own object -/
def tJoin (ts : List TE) : TE := fun σ H Q => tJs ts Str.empty σ H fun out H1 => Q (.str out) H1
theorem pe_joinN {X : Cx} {E : Expr} {ts : List TE} (h : PE X E (fun σ H Q => tJs ts Str.empty σ H fun out H1 => Q (.str out) H1)) : PE X E (tJoin ts) := h
section
variable {K : PySem.W.Frag} {σ : L2.St} {H : Hp} {Q : VK}
theorem r_join {ts : List TE} (h : tJs ts Str.empty σ H fun out H1 => Q (.str out) H1) : tJoin ts σ H Q := h
theorem r_jnil {acc : Str} {Q : Str → Hp → Prop} (h : Q acc H) : tJs [] acc σ H Q := h
theorem r_jcons {t : TE} {ts : List TE} {acc : Str} {Q : Str → Hp → Prop} (h : t σ H fun x H1 => ∃ y : Str, x = .str y ∧ (acc ++ y).length ≤ sizeLine ∧ tJs ts (acc ++ y) σ H1 Q) : tJs (t :: ts) acc σ H Q := h
theorem r_jE {y acc : Str} {P : Str → Prop} (hz : (acc ++ y).length ≤ sizeLine) (h : P (acc ++ y)) : ∃ u : Str, V.str y = .str u ∧ (acc ++ u).length ≤ sizeLine ∧ P (acc ++ u) := ⟨y, rfl, hz, h⟩
theorem r_fmtR {te : TE} (h : te σ H fun x H1 => (∃ y : Str, x = .str y ∧ (reprText y).length ≤ sizeLine ∧ Q (.str (reprText y)) H1) ∨ ∃ i : Int, x = .int i ∧ i.natAbs.log2 < 1920 ∧ Q (.str (toString i)) H1) : tFmtR te σ H Q := h
end
/-- repr(o), o of a class with a __repr__ of its own -/
def rReprO (C : Addr) (sp : Sp) : List V → Hp → VK → Prop := fun xs H Q => ∃ a dx fs, xs = [.ref a] ∧ H a = some (.ins C dx fs) ∧ ∀ E, sp [.ref a] H (fun v H' => ∃ z, v = .str z ∧ Q (.str z) H') E
theorem call_rReprO {X : Cx} {C f : Addr} {fd : FuncData} {k : Nat} {sp : Sp} (hs : PySem.W.findIn X.K (.ref C) "__repr__" = some (some (.ref f))) (hf : PySem.W.isFn X.K (.ref f) = true) (F : FnOk X.prog X.w X.K X.mg X.base CX0 k f fd ["self"] sp) (hb : Binds X.K fd ["self"] []) (hr : Room (k + 1) X.A) :
    CallR X (.builtin "repr") (rReprO C sp) := by
  intro pins s σ H xs us Q I r h
  obtain ⟨a, dx, fs, rfl, ha, q⟩ := h
  obtain ⟨u, rfl, rx⟩ := vals1 r
  have hu : u = Value.ref a := rx
  subst hu
  obtain ⟨mA, O, _⟩ := ins_get I.hok ha
  obtain ⟨od, J, _⟩ := O.look
  obtain ⟨m, fr⟩ := I.fr
  have room : Room k X.A.in1 := hr.in1
  refine PySem.W.repr_K (by have := room.un; omega) fr I.ok.mod.kin J hs hf ?_
  refine wpAny_call (codeAny_mono (F.run X.A.in1 X.stack s H ⟨[.ref a], []⟩ [.ref a] [.ref a] _ (fun _ _ _ => False) room I.env0.in1 (hb s [.ref a] I.kIn rfl) (.cons rfl .nil) (q _)) ?_)
  intro r s' hq
  cases r with
  | error e => exact False.elim hq
  | ok fl =>
    cases fl with
    | ret v =>
      obtain ⟨y, H', J', rel, z, rfl, q'⟩ := I.after hq
      obtain ⟨t, rfl⟩ := rel
      exact ⟨.str z, H', J', ⟨t, rfl⟩, q'⟩
    | next => exact False.elim hq
    | brk => exact False.elim hq
    | cont => exact False.elim hq
end Th
namespace Th
open PySem PySem.Spec PyProof.Rows L2
local macro_rules | `(tactic| walk_at "lk") => `(tactic| first
  | assumption
  | exact upd_same
  | (refine upd_old (by assumption) ?_; walk_at "lk")
  | (refine upd_diff (by assumption) ?_; walk_at "lk")
  | (refine upd_diff (Ne.symm (by assumption)) ?_; walk_at "lk"))
local macro_rules | `(tactic| walk_at "cnd") => `(tactic| first
  | omega
  | (refine ⟨by omega, by omega⟩)
  | (refine ⟨by omega, by omega, by omega⟩)
  | (refine .inl ⟨by omega, by omega⟩)
  | (refine .inr ⟨by omega, by omega⟩)
  | (exact (show CPow _ _ from ⟨by decide, by decide, by omega⟩))
  | decide +kernel
  | (unfold CMulW; decide +kernel)
  | (exact wide_div (b := 64) (by omega) (by omega) (by decide) (by decide)))
local macro_rules | `(tactic| walk_at "rd1") => `(tactic| first
  | (with_reducible refine r_seq ?_)
  | (with_reducible refine r_asg ?_)
  | (with_reducible refine r_ret ?_)
  | (with_reducible refine r_if ?_)
  | (with_reducible refine r_gname ?_)
  | ((with_reducible refine' r_var ?hv ?_); (case hv => exact rfl))
  | (with_reducible refine r_c ?_)
  | (with_reducible refine r_op ?_)
  | (with_reducible refine r_I0 ?_)
  | ((with_reducible refine r_I ?hc ?_); (case hc => walk_at "cnd"))
  | (with_reducible refine r_test ?_)
  | (with_reducible refine r_tB ?_)
  | (with_reducible refine r_bl ?_)
  | (with_reducible refine r_not ?_)
  | (with_reducible refine r_and ?_)
  | (with_reducible refine r_or ?_)
  | (with_reducible refine r_ifE ?_)
  | (with_reducible refine r_notV ?_)
  | (with_reducible refine r_andV ?_)
  | (with_reducible refine r_orV ?_)
  | (with_reducible refine r_chain ?_)
  | (with_reducible refine r_cb ?_)
  | (with_reducible refine r_call ?_)
  | (with_reducible refine r_callN ?_)
  | (with_reducible refine r_nil ?_)
  | (with_reducible refine r_cons ?_)
  | ((with_reducible refine r_lst ?_))
  | ((with_reducible refine r_tup ?_))
  | ((with_reducible refine r_new ?_ ?_); (exact Nat.le_of_ble_eq_true rfl); (intro p hp))
  | (with_reducible refine r_rInt1 ?_)
  | (with_reducible refine r_rIntB ?_)
  | (with_reducible refine r_rAbs ?_)
  | (with_reducible refine r_rMin2 ?_)
  | (with_reducible refine r_rMax2 ?_)
  | ((with_reducible refine r_rLenZ ?hz ?_); (case hz => first | assumption | exact Nat.le_of_ble_eq_true rfl | (refine Nat.le_trans ?_ (by decide : 100000 ≤ sizeLine); omega)))
  | ((with_reducible refine r_addZ ?hz ?_); (case hz => (refine Nat.le_trans ?_ (by decide : 100000 ≤ sizeLine); first | omega | (simp only [Str.length] at *; simp; omega))))
  | ((with_reducible refine r_mulZ ?hz ?h0 ?h1 ?_); (case hz => first | omega | exact Nat.le_of_ble_eq_true rfl); (case h0 => omega); (case h1 => omega))
  | ((with_reducible refine' r_rLenQ ?h1 ?_); (case h1 => first | (exact .inl (by assumption)) | (exact .inr (by assumption)) | (exact .inl (SqL.of (by walk_at "lk"))) | (exact .inr (SqT.of (by walk_at "lk")))))
  | ((with_reducible refine r_eq ?hs ?_); (case hs => exact rfl))
  | ((with_reducible refine r_ne ?hs ?_); (case hs => exact rfl))
  | (with_reducible refine r_inC ?_)
  | ((with_reducible refine' r_cat ?h1 ?h2 ?h3 ?_); (case h1 => walk_at "lk"); (case h2 => walk_at "lk"); (case h3 => exact Nat.le_of_ble_eq_true rfl); (intro p hp))
  | ((with_reducible refine' r_rep ?h1 ?h2 ?h3 ?h4 ?_); (case h1 => walk_at "lk"); (case h2 => omega); (case h3 => omega); (case h4 => exact Nat.le_of_ble_eq_true rfl); (intro p hp))
  | ((with_reducible refine' r_append ?h1 ?h2 ?_); (case h1 => walk_at "lk"); (case h2 => first | exact (show _ + 1 ≤ sizeLine from Nat.le_of_ble_eq_true rfl) | exact Nat.lt_of_le_of_lt (by omega : _ ≤ 100000) (by decide)))
  | (with_reducible refine r_bm ?_)
  | ((with_reducible refine' r_tyL ?h1 ?_); (case h1 => walk_at "lk"))
  | ((with_reducible refine' r_ixL ?h1 ?h2 ?_); (case h1 => first | assumption | exact SqL.of (by walk_at "lk")); (case h2 => exact rfl))
  | ((with_reducible refine' r_ixT ?h1 ?h2 ?_); (case h1 => first | assumption | exact SqT.of (by walk_at "lk")); (case h2 => exact rfl))
  | (with_reducible refine r_gsub ?_)
  | ((with_reducible refine' r_setL ?h1 ?h2 ?_); (case h1 => walk_at "lk"); (case h2 => exact rfl))
  | (with_reducible refine r_un ?_)
  | (with_reducible refine r_neg ?_)
  | (with_reducible refine r_iteT ?_)
  | (with_reducible refine r_iteNT ?_)
  | (with_reducible refine r_iteNF ?_)
  | (with_reducible refine r_iteF ?_)
  | (with_reducible refine r_next ?_)
  | (with_reducible refine r_drop ?_)
  | (with_reducible refine r_cont ?_)
  | (with_reducible refine r_brk ?_))
local macro_rules | `(tactic| walk_at "ty") => `(tactic| first
  | assumption
  | exact .base (.int _)
  | exact .base (.str _)
  | exact .base (.bl _)
  | exact .base .non
  | exact .byt _
  | exact .base (.lst (by walk_at "lk"))
  | exact .base (.tup (by walk_at "lk")))
local macro_rules | `(tactic| walk_at "rd2") => `(tactic| first
  | walk_at "rd1"
  | ((with_reducible refine' r_isi true ?ht ?hk ?_); (case ht => walk_at "ty"); (case hk => first | assumption | decide +kernel))
  | ((with_reducible refine' r_isi false ?ht ?hk ?_); (case ht => walk_at "ty"); (case hk => first | assumption | decide +kernel))
  | ((with_reducible refine' r_isiT2 true true ?hT ?ht ?hk ?hk2 ?_); (case hT => walk_at "lk"); (case ht => walk_at "ty"); (case hk => decide +kernel); (case hk2 => decide +kernel))
  | ((with_reducible refine' r_isiT2 true false ?hT ?ht ?hk ?hk2 ?_); (case hT => walk_at "lk"); (case ht => walk_at "ty"); (case hk => decide +kernel); (case hk2 => decide +kernel))
  | ((with_reducible refine' r_isiT2 false true ?hT ?ht ?hk ?hk2 ?_); (case hT => walk_at "lk"); (case ht => walk_at "ty"); (case hk => decide +kernel); (case hk2 => decide +kernel))
  | ((with_reducible refine' r_isiT2 false false ?hT ?ht ?hk ?hk2 ?_); (case hT => walk_at "lk"); (case ht => walk_at "ty"); (case hk => decide +kernel); (case hk2 => decide +kernel))
  | (with_reducible refine r_iteNT ?_)
  | ((show (if (!true) = true then _ else _)); refine r_iteNT ?_)
  | (with_reducible refine r_r1 ?_)
  | (with_reducible refine r_maks ?_)
  | (with_reducible refine r_sfld ?_)
  | ((with_reducible refine' r_sfldE ?h1 ?h2 ?h3 ?h4 ?_); (case h1 => walk_at "lk"); (case h2 => assumption); (case h3 => assumption); (case h4 => exact (show _ + 1 ≤ 1000 from Nat.le_of_ble_eq_true rfl)))
  | (with_reducible refine r_fld ?_)
  | (with_reducible refine r_join ?_)
  | (with_reducible refine r_jcons ?_)
  | (with_reducible refine r_jnil ?_)
  | ((with_reducible refine r_rLenY ?hz ?_); (case hz => first | assumption | (refine Nat.le_trans ?_ (by decide : 100000 ≤ sizeLine); omega)))
  | (with_reducible refine r_par ?_)
  | (with_reducible refine r_pair ?_)
  | (with_reducible refine r_par3 ?_)
  | (with_reducible refine r_trip ?_)
  | ((with_reducible refine' r_gtup ?h1 ?h2 ?_); (case h1 => first | assumption | exact SqT.of (by walk_at "lk")); (case h2 => exact rfl))
  | (with_reducible refine r_gcons ?_)
  | (with_reducible refine r_gnil ?_)
  | ((with_reducible refine' r_slL ?h1 ?_); (case h1 => first | assumption | exact SqL.of (by walk_at "lk")); (intro p hp))
  | (with_reducible refine r_iTup ?_)
  | ((with_reducible refine' r_tupE ?h1 ?_); (case h1 => first | assumption | exact SqT.of (by walk_at "lk")))
  | (with_reducible refine r_m1 ?_)
  | (with_reducible refine r_isZ ?_)
  | (with_reducible refine r_sl ?_)
  | (with_reducible refine r_noPart ?_)
  | (with_reducible refine r_part ?_)
  | (with_reducible refine r_partE ?_)
  | ((with_reducible refine r_slS ?hz ?_); (case hz => first | assumption | (refine Nat.le_trans ?_ (by decide : 100000 ≤ sizeLine); omega)))
  | ((with_reducible refine' r_inT ?h1 ?h2 ?h3 ?_); (case h1 => first | assumption | (exact SqT.of (by walk_at "lk"))); (case h2 => exact rfl); (case h3 => exact rfl))
  | ((with_reducible refine' r_inL ?h1 ?h2 ?h3 ?_); (case h1 => first | assumption | (exact SqL.of (by walk_at "lk"))); (case h2 => exact rfl); (case h3 => exact rfl))
  | (with_reducible refine r_lc ?_)
  | (with_reducible refine r_for ?_)
  | (with_reducible refine r_iStr ?_)
  | (with_reducible refine r_strE ?_)
  | (with_reducible refine r_iList ?_)
  | ((with_reducible refine' r_listE ?h1 ?_); (case h1 => first | assumption | exact SqL.of (by walk_at "lk")))
  | (with_reducible refine r_iRng1 ?_)
  | ((with_reducible refine' r_rngE ?h0 ?h1 ?_); (case h0 => first | omega | (split <;> omega)); (case h1 => first | omega | (split <;> omega))))
local macro_rules | `(tactic| walk_at "rd") => `(tactic| (repeat walk_at "rd2"))
local macro_rules | `(tactic| walk_at "st") => `(tactic| (repeat (first
  | (with_reducible refine r_gname ?_)
  | (with_reducible refine r_next ?_)
  | (with_reducible refine r_seq ?_)
  | (with_reducible refine r_asg ?_)
  | (with_reducible refine r_ret ?_)
  | (with_reducible refine r_for ?_)
  | (with_reducible refine r_iRng1 ?_)
  | (with_reducible refine r_iList ?_)
  | (with_reducible refine r_cons ?_)
  | (with_reducible refine r_par ?_)
  | (with_reducible refine r_par3 ?_))))
def topS (i : Nat) : Stmt := PySem.Challenge.pw_tarhouse_k04_members_compared.main.body.getD i (.Pass ⟨0, 0, 0, 0⟩)
abbrev s_is_integer : Stmt := topS 2
abbrev N_is_integer : List Str := ["thing"]
theorem sc_is_integer : FnScope N_is_integer ["thing"] (defScope s_is_integer) := ⟨rfl, rfl, rfl, by decide +kernel, rfl, by decide +kernel, by decide +kernel⟩
abbrev s_is_integer_within : Stmt := topS 3
abbrev N_is_integer_within : List Str := ["thing", "least", "most"]
theorem sc_is_integer_within : FnScope N_is_integer_within ["thing", "least", "most"] (defScope s_is_integer_within) := ⟨rfl, rfl, rfl, by decide +kernel, rfl, by decide +kernel, by decide +kernel⟩
abbrev s_is_name : Stmt := topS 21
abbrev N_is_name : List Str := ["thing", "character"]
theorem sc_is_name : FnScope N_is_name ["thing"] (defScope s_is_name) := ⟨rfl, rfl, rfl, by decide +kernel, rfl, by decide +kernel, by decide +kernel⟩
abbrev s_blob : Stmt := topS 40
abbrev N_blob : List Str := ["numbers"]
theorem sc_blob : FnScope N_blob ["numbers"] (defScope s_blob) := ⟨rfl, rfl, rfl, by decide +kernel, rfl, by decide +kernel, by decide +kernel⟩
abbrev s_is_row_of_bytes : Stmt := topS 41
abbrev N_is_row_of_bytes : List Str := ["thing", "number"]
theorem sc_is_row_of_bytes : FnScope N_is_row_of_bytes ["thing"] (defScope s_is_row_of_bytes) := ⟨rfl, rfl, rfl, by decide +kernel, rfl, by decide +kernel, by decide +kernel⟩
abbrev s__law_source : Stmt := topS 43
abbrev N__law_source : List Str := ["_law_script", "_law_at", "_law_cell", "_law_large", "_law_mix", "_law_k"]
theorem sc__law_source : FnScope N__law_source ["_law_script", "_law_at"] (defScope s__law_source) := ⟨rfl, rfl, rfl, by decide +kernel, rfl, by decide +kernel, by decide +kernel⟩
abbrev s__law_draw : Stmt := topS 44
abbrev N__law_draw : List Str := ["_law_source_here", "_law_many", "_law_digit"]
theorem sc__law_draw : FnScope N__law_draw ["_law_source_here", "_law_many"] (defScope s__law_draw) := ⟨rfl, rfl, rfl, by decide +kernel, rfl, by decide +kernel, by decide +kernel⟩
abbrev s__law_random_name : Stmt := topS 45
abbrev N__law_random_name : List Str := ["_law_source_here", "_law_many", "_law_found", "_law_k"]
theorem sc__law_random_name : FnScope N__law_random_name ["_law_source_here", "_law_many"] (defScope s__law_random_name) := ⟨rfl, rfl, rfl, by decide +kernel, rfl, by decide +kernel, by decide +kernel⟩
abbrev s__law_any_name : Stmt := topS 46
abbrev N__law_any_name : List Str := ["_law_source_here", "_law_way", "_law_size", "_law_base"]
theorem sc__law_any_name : FnScope N__law_any_name ["_law_source_here"] (defScope s__law_any_name) := ⟨rfl, rfl, rfl, by decide +kernel, rfl, by decide +kernel, by decide +kernel⟩
abbrev s__law_random_numbers : Stmt := topS 47
abbrev N__law_random_numbers : List Str := ["_law_source_here", "_law_many", "_law_first", "_law_step", "_law_way", "_law_k"]
theorem sc__law_random_numbers : FnScope N__law_random_numbers ["_law_source_here", "_law_many"] (defScope s__law_random_numbers) := ⟨rfl, rfl, rfl, by decide +kernel, rfl, by decide +kernel, by decide +kernel⟩
abbrev s__law_random_size : Stmt := topS 48
abbrev N__law_random_size : List Str := ["_law_source_here"]
theorem sc__law_random_size : FnScope N__law_random_size ["_law_source_here"] (defScope s__law_random_size) := ⟨rfl, rfl, rfl, by decide +kernel, rfl, by decide +kernel, by decide +kernel⟩
abbrev s__law_stamps : Stmt := topS 49
abbrev N__law_stamps : List Str := ["_law_source_here", "_law_bits"]
theorem sc__law_stamps : FnScope N__law_stamps ["_law_source_here"] (defScope s__law_stamps) := ⟨rfl, rfl, rfl, by decide +kernel, rfl, by decide +kernel, by decide +kernel⟩
abbrev s__law_random_spans : Stmt := topS 50
abbrev N__law_random_spans : List Str := ["_law_source_here", "_law_size", "_law_found", "_law_end", "_law_begin", "_law_length"]
theorem sc__law_random_spans : FnScope N__law_random_spans ["_law_source_here", "_law_size"] (defScope s__law_random_spans) := ⟨rfl, rfl, rfl, by decide +kernel, rfl, by decide +kernel, by decide +kernel⟩
abbrev s__law_random_member : Stmt := topS 51
abbrev N__law_random_member : List Str := ["_law_source_here", "_law_kind", "_law_bits", "_law_time_here", "_law_found", "_law_size", "_law_spans", "_law_begin", "_law_many"]
theorem sc__law_random_member : FnScope N__law_random_member ["_law_source_here"] (defScope s__law_random_member) := ⟨rfl, rfl, rfl, by decide +kernel, rfl, by decide +kernel, by decide +kernel⟩
abbrev s_law : Stmt := topS 54
abbrev N_law : List Str := ["_law_script", "_law_k", "_law_source_here", "_law_turn", "_law_one", "_law_other", "_law_made_here", "_law_more", "_law_zeros", "_law_at", "_law_place"]
theorem sc_law : FnScope N_law ["_law_script"] (defScope s_law) := ⟨rfl, rfl, rfl, by decide +kernel, rfl, by decide +kernel, by decide +kernel⟩
abbrev s_File___repr__ : Stmt := inClass (topS 34) 3
abbrev N_File___repr__ : List Str := ["self"]
theorem sc_File___repr__ : FnScope N_File___repr__ ["self"] (defScope s_File___repr__) := ⟨rfl, rfl, rfl, by decide +kernel, rfl, by decide +kernel, by decide +kernel⟩
abbrev s_Directory___repr__ : Stmt := inClass (topS 36) 3
abbrev N_Directory___repr__ : List Str := ["self"]
theorem sc_Directory___repr__ : FnScope N_Directory___repr__ ["self"] (defScope s_Directory___repr__) := ⟨rfl, rfl, rfl, by decide +kernel, rfl, by decide +kernel, by decide +kernel⟩
abbrev s_Symlink___repr__ : Stmt := inClass (topS 37) 3
abbrev N_Symlink___repr__ : List Str := ["self"]
theorem sc_Symlink___repr__ : FnScope N_Symlink___repr__ ["self"] (defScope s_Symlink___repr__) := ⟨rfl, rfl, rfl, by decide +kernel, rfl, by decide +kernel, by decide +kernel⟩
abbrev s_Link___repr__ : Stmt := inClass (topS 38) 3
abbrev N_Link___repr__ : List Str := ["self"]
theorem sc_Link___repr__ : FnScope N_Link___repr__ ["self"] (defScope s_Link___repr__) := ⟨rfl, rfl, rfl, by decide +kernel, rfl, by decide +kernel, by decide +kernel⟩
abbrev s_Sparse___repr__ : Stmt := inClass (topS 35) 3
abbrev N_Sparse___repr__ : List Str := ["self"]
theorem sc_Sparse___repr__ : FnScope N_Sparse___repr__ ["self"] (defScope s_Sparse___repr__) := ⟨rfl, rfl, rfl, by decide +kernel, rfl, by decide +kernel, by decide +kernel⟩
abbrev s_File___eq__ : Stmt := inClass (topS 34) 2
abbrev N_File___eq__ : List Str := ["self", "other"]
theorem sc_File___eq__ : FnScope N_File___eq__ ["self", "other"] (defScope s_File___eq__) := ⟨rfl, rfl, rfl, by decide +kernel, rfl, by decide +kernel, by decide +kernel⟩
abbrev s_Sparse___eq__ : Stmt := inClass (topS 35) 2
abbrev N_Sparse___eq__ : List Str := ["self", "other"]
theorem sc_Sparse___eq__ : FnScope N_Sparse___eq__ ["self", "other"] (defScope s_Sparse___eq__) := ⟨rfl, rfl, rfl, by decide +kernel, rfl, by decide +kernel, by decide +kernel⟩
abbrev s_Directory___eq__ : Stmt := inClass (topS 36) 2
abbrev N_Directory___eq__ : List Str := ["self", "other"]
theorem sc_Directory___eq__ : FnScope N_Directory___eq__ ["self", "other"] (defScope s_Directory___eq__) := ⟨rfl, rfl, rfl, by decide +kernel, rfl, by decide +kernel, by decide +kernel⟩
abbrev s_Symlink___eq__ : Stmt := inClass (topS 37) 2
abbrev N_Symlink___eq__ : List Str := ["self", "other"]
theorem sc_Symlink___eq__ : FnScope N_Symlink___eq__ ["self", "other"] (defScope s_Symlink___eq__) := ⟨rfl, rfl, rfl, by decide +kernel, rfl, by decide +kernel, by decide +kernel⟩
abbrev s_Link___eq__ : Stmt := inClass (topS 38) 2
abbrev N_Link___eq__ : List Str := ["self", "other"]
theorem sc_Link___eq__ : FnScope N_Link___eq__ ["self", "other"] (defScope s_Link___eq__) := ⟨rfl, rfl, rfl, by decide +kernel, rfl, by decide +kernel, by decide +kernel⟩
abbrev s__law_near : Stmt := topS 53
abbrev N__law_near : List Str := ["_law_source_here", "_law_one", "_law_found", "_law_at"]
theorem sc__law_near : FnScope N__law_near ["_law_source_here", "_law_one"] (defScope s__law_near) := ⟨rfl, rfl, rfl, by decide +kernel, rfl, by decide +kernel, by decide +kernel⟩
abbrev s_File___init__ : Stmt := inClass (topS 34) 1
abbrev N_File___init__ : List Str := ["self", "name", "data", "mode", "time"]
theorem sc_File___init__ : FnScope N_File___init__ ["self", "name", "data", "mode", "time"] (defScope s_File___init__) := ⟨rfl, rfl, rfl, by decide +kernel, rfl, by decide +kernel, by decide +kernel⟩
abbrev s_Directory___init__ : Stmt := inClass (topS 36) 1
abbrev N_Directory___init__ : List Str := ["self", "name", "mode", "time"]
theorem sc_Directory___init__ : FnScope N_Directory___init__ ["self", "name", "mode", "time"] (defScope s_Directory___init__) := ⟨rfl, rfl, rfl, by decide +kernel, rfl, by decide +kernel, by decide +kernel⟩
abbrev s_Symlink___init__ : Stmt := inClass (topS 37) 1
abbrev N_Symlink___init__ : List Str := ["self", "name", "target", "mode", "time"]
theorem sc_Symlink___init__ : FnScope N_Symlink___init__ ["self", "name", "target", "mode", "time"] (defScope s_Symlink___init__) := ⟨rfl, rfl, rfl, by decide +kernel, rfl, by decide +kernel, by decide +kernel⟩
abbrev s_Link___init__ : Stmt := inClass (topS 38) 1
abbrev N_Link___init__ : List Str := ["self", "name", "target", "mode", "time"]
theorem sc_Link___init__ : FnScope N_Link___init__ ["self", "name", "target", "mode", "time"] (defScope s_Link___init__) := ⟨rfl, rfl, rfl, by decide +kernel, rfl, by decide +kernel, by decide +kernel⟩
abbrev s_Sparse___init__ : Stmt := inClass (topS 35) 1
abbrev N_Sparse___init__ : List Str := ["self", "name", "size", "mode", "time", "pieces"]
theorem sc_Sparse___init__ : FnScope N_Sparse___init__ ["self", "name", "size", "mode", "time", "pieces"] (defScope s_Sparse___init__) := ⟨rfl, rfl, rfl, by decide +kernel, rfl, by decide +kernel, by decide +kernel⟩
abbrev s_check_name : Stmt := topS 29
abbrev N_check_name : List Str := ["thing"]
theorem sc_check_name : FnScope N_check_name ["thing"] (defScope s_check_name) := ⟨rfl, rfl, rfl, by decide +kernel, rfl, by decide +kernel, by decide +kernel⟩
abbrev s_check_data : Stmt := topS 30
abbrev N_check_data : List Str := ["thing"]
theorem sc_check_data : FnScope N_check_data ["thing"] (defScope s_check_data) := ⟨rfl, rfl, rfl, by decide +kernel, rfl, by decide +kernel, by decide +kernel⟩
abbrev s_check_pieces : Stmt := topS 31
abbrev N_check_pieces : List Str := ["size", "pieces"]
theorem sc_check_pieces : FnScope N_check_pieces ["size", "pieces"] (defScope s_check_pieces) := ⟨rfl, rfl, rfl, by decide +kernel, rfl, by decide +kernel, by decide +kernel⟩
abbrev s_are_pieces : Stmt := topS 26
abbrev N_are_pieces : List Str := ["size", "pieces", "offset", "data", "piece"]
theorem sc_are_pieces : FnScope N_are_pieces ["size", "pieces"] (defScope s_are_pieces) := ⟨rfl, rfl, rfl, by decide +kernel, rfl, by decide +kernel, by decide +kernel⟩
abbrev s_is_piece : Stmt := topS 27
abbrev N_is_piece : List Str := ["thing"]
theorem sc_is_piece : FnScope N_is_piece ["thing"] (defScope s_is_piece) := ⟨rfl, rfl, rfl, by decide +kernel, rfl, by decide +kernel, by decide +kernel⟩
abbrev s_check_mode_and_time : Stmt := topS 32
abbrev N_check_mode_and_time : List Str := ["mode", "time"]
theorem sc_check_mode_and_time : FnScope N_check_mode_and_time ["mode", "time"] (defScope s_check_mode_and_time) := ⟨rfl, rfl, rfl, by decide +kernel, rfl, by decide +kernel, by decide +kernel⟩
abbrev s__law_made : Stmt := topS 52
abbrev N__law_made : List Str := ["_law_one", "_law_some", "_law_begin", "_law_numbers"]
theorem sc__law_made : FnScope N__law_made ["_law_one"] (defScope s__law_made) := ⟨rfl, rfl, rfl, by decide +kernel, rfl, by decide +kernel, by decide +kernel⟩
/-- the state of the drawing: three ints -/
def Src (H : Hp) (a : Addr) : Prop := ∃ l m c : Int, H a = some (.lst [.int l, .int m, .int c]) ∧ 0 ≤ l ∧ 0 ≤ m ∧ m < 2147483647
def spDraw : Sp := fun vs H Q _ => ∃ (a : Addr) (n : Int), vs = [.ref a, .int n] ∧ Src H a ∧ 0 < n ∧ n < 1000000000000 ∧ ∀ (d : Int) H', 0 ≤ d → d < n → Src H' a → But a H H' → Q (.int d) H'
theorem sp_draw {a : Addr} {n : Int} {H : Hp} {Q : VK} {E : XK} (h : Src H a) (h0 : 0 < n) (h1 : n < 1000000000000) (k : ∀ (d : Int) H', 0 ≤ d → d < n → Src H' a → But a H H' → Q (.int d) H') : spDraw ([.ref a, .int n] ++ []) H Q E := ⟨a, n, rfl, h, h0, h1, k⟩
section
variable {P : Program} {w : World} {K : PySem.W.Frag} {mg : Str → Option Value} {base : Heap}
theorem ok_draw {f : Addr} {fd : FuncData} {k : Nat} (F : Fun K "_law_draw" "_law_draw" s__law_draw f fd) (mi : mg "int" = none) : FnOk P w K mg base CX0 (k + 2) f fd ["_law_source_here", "_law_many"] spDraw := by
  refine F.ok sc__law_draw (fun vs H Q E h => ?_) (fun cdv A outer s H vs Q E hr h => ?_)
  · obtain ⟨a, n, rfl, _⟩ := h
    rfl
  · obtain ⟨a, n, rfl, ⟨l, m, c, ha, hl0, hm0, hm1⟩, hn0, hn1, q⟩ := h
    have hu := hu_of hr
    have nd := sc__law_draw.nd
    refine ⟨_, (pss_cons (ps_if (pt_cmpR op_gt (pe_ix (ix_listK K) (pv 0) pe_int (fun _ _ => rfl)) pe_int (nomark _))
        (pss_cons (ps_set (i := 2) nd rfl (Or.inl rfl) (pe_op op_mod (pe_callTy call_rInt1 (by rfl) (by assumption) (by decide +kernel) (pa_cons (pe_ix (ix_listK K) (pv 0) pe_int (fun _ _ => rfl)) pa_nil)) (pv 1)))
      (pss_cons (ps_asg (pe_op op_fdivW (pe_ix (ix_listK K) (pv 0) pe_int (fun _ _ => rfl)) (pv 1)) (pg_sub (pv 0) pe_int set_list))
      (pss_one (ps_ret (pv 2)))))
        pss_nil)
      (pss_cons (ps_asg (pe_op op_add (pe_ix (ix_listK K) (pv 0) pe_int (fun _ _ => rfl)) pe_int) (pg_sub (pv 0) pe_int set_list))
      (pss_cons (ps_asg (pe_op op_mod (pe_callTy call_rInt1 (by rfl) (by assumption) (by decide +kernel) (pa_cons (pe_op op_add (pe_op op_add (pe_op op_pow (pe_ix (ix_listK K) (pv 0) pe_int (fun _ _ => rfl)) pe_int) (pe_op op_mul pe_int (pe_ix (ix_listK K) (pv 0) pe_int (fun _ _ => rfl)))) pe_int) pa_nil)) pe_int) (pg_sub (pv 0) pe_int set_list))
      (pss_one (ps_ret (pe_op op_mod (pe_callTy call_rInt1 (by rfl) (by assumption) (by decide +kernel) (pa_cons (pe_op op_fdivW (pe_op op_mod (pe_callTy call_rInt1 (by rfl) (by assumption) (by decide +kernel) (pa_cons (pe_op op_mul (pe_ix (ix_listK K) (pv 0) pe_int (fun _ _ => rfl)) pe_int) pa_nil)) pe_int) pe_int) pa_nil)) (pv 1))))))), ?_⟩
    walk_at "rd"
    refine r_iteD (fun h0 => ?_) (fun h0 => ?_)
    · walk_at "rd"
      refine q _ _ (Int.emod_nonneg _ (by omega)) (Int.emod_lt_of_pos _ hn0) ⟨l / n, m, c, upd_same, Int.ediv_nonneg hl0 (by omega), hm0, hm1⟩ (fun b o nb e => by rw [upd_ne nb]; exact e)
    · walk_at "rd"
      refine q _ _ (Int.emod_nonneg _ (by omega)) (Int.emod_lt_of_pos _ hn0) ⟨l, _, c + 1, upd_same, hl0, Int.emod_nonneg _ (by decide), Int.emod_lt_of_pos _ (by decide)⟩ (fun b o nb e => by rw [upd_ne nb, upd_ne nb]; exact e)
/-! ### the program's defs -/
def spIsI : Sp := fun vs H Q _ => ∃ i : Int, vs = [.int i] ∧ Q (.bl true) H
theorem sp_isI {i : Int} {H : Hp} {Q : VK} {E : XK} (k : Q (.bl true) H) : spIsI ([.int i] ++ []) H Q E := ⟨i, rfl, k⟩
theorem ok_isI {f : Addr} {fd : FuncData} {k : Nat} (F : Fun K "is_integer" "is_integer" s_is_integer f fd) (m1 : mg "isinstance" = none) (m2 : mg "bool" = none) (m3 : mg "int" = none) : FnOk P w K mg base CX0 (k + 1) f fd ["thing"] spIsI := by
  refine F.ok sc_is_integer (fun vs H Q E h => ?_) (fun cdv A outer s H vs Q E hr h => ?_)
  · obtain ⟨i, rfl, _⟩ := h
    rfl
  · obtain ⟨i, rfl, q⟩ := h
    have hu := hu_of hr
    have nd := sc_is_integer.nd
    refine ⟨_, (pss_one (ps_ret (pe_and (pe_callB (call_isiK1 K) (by rfl) (by assumption) (by decide +kernel) (pa_cons (pv 0) (pa_cons (pe_bltn (v := .ty "int") (by rfl) (by assumption) (by decide +kernel) rfl) pa_nil))) (pe_one (pe_not (pe_callB (call_isiK1 K) (by rfl) (by assumption) (by decide +kernel) (pa_cons (pv 0) (pa_cons (pe_bltn (v := .ty "bool") (by rfl) (by assumption) (by decide +kernel) rfl) pa_nil)))))))), ?_⟩
    walk_at "rd"
    exact q
def spWithin : Sp := fun vs H Q _ => ∃ (i lo hi : Int), vs = [.int i, .int lo, .int hi] ∧ Q (.bl (decide (lo ≤ i) && decide (i ≤ hi))) H
theorem ok_within {f : Addr} {fd : FuncData} {k : Nat} (F : Fun K "is_integer_within" "is_integer_within" s_is_integer_within f fd) (c_isI : CalT P w K mg base 1 "is_integer" spIsI) : FnOk P w K mg base CX0 (k + 2) f fd ["thing", "least", "most"] spWithin := by
  refine F.ok sc_is_integer_within (fun vs H Q E h => ?_) (fun cdv A outer s H vs Q E hr h => ?_)
  · obtain ⟨i, lo, hi, rfl, _⟩ := h
    rfl
  · obtain ⟨i, lo, hi, rfl, q⟩ := h
    have hu := hu_of hr
    have nd := sc_is_integer_within.nd
    refine ⟨_, (pss_one (ps_ret (pe_and (pe_cc c_isI hr (by omega) (by rfl) (pa_cons (pv 0) pa_nil)) (pe_one (pe_chain op_le op_le (pv 1) (pv 0) (pv 2)))))), ?_⟩
    walk_at "rd"
    refine sp_isI ?_
    walk_at "rd"
    refine r_iteD (fun h1 => ?_) (fun h1 => ?_)
    · walk_at "rd"
      rw [decide_eq_true h1, Bool.true_and] at q
      exact q
    · walk_at "rd"
      rw [decide_eq_false h1, Bool.false_and] at q
      exact q
theorem sp_within {i lo hi : Int} {H : Hp} {Q : VK} {E : XK} (k : Q (.bl (decide (lo ≤ i) && decide (i ≤ hi))) H) : spWithin ([.int i, .int lo, .int hi] ++ []) H Q E := ⟨i, lo, hi, rfl, k⟩
end
end Th
namespace Th
open PySem PySem.Spec PyProof.Rows L2
local macro_rules | `(tactic| walk_at "lk") => `(tactic| first
  | assumption
  | exact upd_same
  | (refine upd_old (by assumption) ?_; walk_at "lk")
  | (refine upd_diff (by assumption) ?_; walk_at "lk")
  | (refine upd_diff (Ne.symm (by assumption)) ?_; walk_at "lk"))
local macro_rules | `(tactic| walk_at "cnd") => `(tactic| first
  | omega
  | (refine ⟨by omega, by omega⟩)
  | (refine ⟨by omega, by omega, by omega⟩)
  | (refine .inl ⟨by omega, by omega⟩)
  | (refine .inr ⟨by omega, by omega⟩)
  | (exact (show CPow _ _ from ⟨by decide, by decide, by omega⟩))
  | decide +kernel
  | (unfold CMulW; decide +kernel)
  | (exact wide_div (b := 64) (by omega) (by omega) (by decide) (by decide)))
local macro_rules | `(tactic| walk_at "rd1") => `(tactic| first
  | (with_reducible refine r_seq ?_)
  | (with_reducible refine r_asg ?_)
  | (with_reducible refine r_ret ?_)
  | (with_reducible refine r_if ?_)
  | (with_reducible refine r_gname ?_)
  | ((with_reducible refine' r_var ?hv ?_); (case hv => exact rfl))
  | (with_reducible refine r_c ?_)
  | (with_reducible refine r_op ?_)
  | (with_reducible refine r_I0 ?_)
  | ((with_reducible refine r_I ?hc ?_); (case hc => walk_at "cnd"))
  | (with_reducible refine r_test ?_)
  | (with_reducible refine r_tB ?_)
  | (with_reducible refine r_bl ?_)
  | (with_reducible refine r_not ?_)
  | (with_reducible refine r_and ?_)
  | (with_reducible refine r_or ?_)
  | (with_reducible refine r_ifE ?_)
  | (with_reducible refine r_notV ?_)
  | (with_reducible refine r_andV ?_)
  | (with_reducible refine r_orV ?_)
  | (with_reducible refine r_chain ?_)
  | (with_reducible refine r_cb ?_)
  | (with_reducible refine r_call ?_)
  | (with_reducible refine r_callN ?_)
  | (with_reducible refine r_nil ?_)
  | (with_reducible refine r_cons ?_)
  | ((with_reducible refine r_lst ?_))
  | ((with_reducible refine r_tup ?_))
  | ((with_reducible refine r_new ?_ ?_); (exact Nat.le_of_ble_eq_true rfl); (intro p hp))
  | (with_reducible refine r_rInt1 ?_)
  | (with_reducible refine r_rIntB ?_)
  | (with_reducible refine r_rAbs ?_)
  | (with_reducible refine r_rMin2 ?_)
  | (with_reducible refine r_rMax2 ?_)
  | ((with_reducible refine r_rLenZ ?hz ?_); (case hz => first | assumption | exact Nat.le_of_ble_eq_true rfl | (refine Nat.le_trans ?_ (by decide : 100000 ≤ sizeLine); omega)))
  | ((with_reducible refine r_addZ ?hz ?_); (case hz => (refine Nat.le_trans ?_ (by decide : 100000 ≤ sizeLine); first | omega | (simp only [Str.length] at *; simp; omega))))
  | ((with_reducible refine r_mulZ ?hz ?h0 ?h1 ?_); (case hz => first | omega | exact Nat.le_of_ble_eq_true rfl); (case h0 => omega); (case h1 => omega))
  | ((with_reducible refine' r_rLenQ ?h1 ?_); (case h1 => first | (exact .inl (by assumption)) | (exact .inr (by assumption)) | (exact .inl (SqL.of (by walk_at "lk"))) | (exact .inr (SqT.of (by walk_at "lk")))))
  | ((with_reducible refine r_eq ?hs ?_); (case hs => exact rfl))
  | ((with_reducible refine r_ne ?hs ?_); (case hs => exact rfl))
  | (with_reducible refine r_inC ?_)
  | ((with_reducible refine' r_cat ?h1 ?h2 ?h3 ?_); (case h1 => walk_at "lk"); (case h2 => walk_at "lk"); (case h3 => exact Nat.le_of_ble_eq_true rfl); (intro p hp))
  | ((with_reducible refine' r_rep ?h1 ?h2 ?h3 ?h4 ?_); (case h1 => walk_at "lk"); (case h2 => omega); (case h3 => omega); (case h4 => exact Nat.le_of_ble_eq_true rfl); (intro p hp))
  | ((with_reducible refine' r_append ?h1 ?h2 ?_); (case h1 => walk_at "lk"); (case h2 => first | exact (show _ + 1 ≤ sizeLine from Nat.le_of_ble_eq_true rfl) | exact Nat.lt_of_le_of_lt (by omega : _ ≤ 100000) (by decide)))
  | (with_reducible refine r_bm ?_)
  | ((with_reducible refine' r_tyL ?h1 ?_); (case h1 => walk_at "lk"))
  | ((with_reducible refine' r_ixL ?h1 ?h2 ?_); (case h1 => first | assumption | exact SqL.of (by walk_at "lk")); (case h2 => exact rfl))
  | ((with_reducible refine' r_ixT ?h1 ?h2 ?_); (case h1 => first | assumption | exact SqT.of (by walk_at "lk")); (case h2 => exact rfl))
  | (with_reducible refine r_gsub ?_)
  | ((with_reducible refine' r_setL ?h1 ?h2 ?_); (case h1 => walk_at "lk"); (case h2 => exact rfl))
  | (with_reducible refine r_un ?_)
  | (with_reducible refine r_neg ?_)
  | (with_reducible refine r_iteT ?_)
  | (with_reducible refine r_iteNT ?_)
  | (with_reducible refine r_iteNF ?_)
  | (with_reducible refine r_iteF ?_)
  | (with_reducible refine r_next ?_)
  | (with_reducible refine r_drop ?_)
  | (with_reducible refine r_cont ?_)
  | (with_reducible refine r_brk ?_))
local macro_rules | `(tactic| walk_at "ty") => `(tactic| first
  | assumption
  | exact .base (.int _)
  | exact .base (.str _)
  | exact .base (.bl _)
  | exact .base .non
  | exact .byt _
  | exact .base (.lst (by walk_at "lk"))
  | exact .base (.tup (by walk_at "lk")))
local macro_rules | `(tactic| walk_at "rd2") => `(tactic| first
  | walk_at "rd1"
  | ((with_reducible refine' r_isi true ?ht ?hk ?_); (case ht => walk_at "ty"); (case hk => first | assumption | decide +kernel))
  | ((with_reducible refine' r_isi false ?ht ?hk ?_); (case ht => walk_at "ty"); (case hk => first | assumption | decide +kernel))
  | ((with_reducible refine' r_isiT2 true true ?hT ?ht ?hk ?hk2 ?_); (case hT => walk_at "lk"); (case ht => walk_at "ty"); (case hk => decide +kernel); (case hk2 => decide +kernel))
  | ((with_reducible refine' r_isiT2 true false ?hT ?ht ?hk ?hk2 ?_); (case hT => walk_at "lk"); (case ht => walk_at "ty"); (case hk => decide +kernel); (case hk2 => decide +kernel))
  | ((with_reducible refine' r_isiT2 false true ?hT ?ht ?hk ?hk2 ?_); (case hT => walk_at "lk"); (case ht => walk_at "ty"); (case hk => decide +kernel); (case hk2 => decide +kernel))
  | ((with_reducible refine' r_isiT2 false false ?hT ?ht ?hk ?hk2 ?_); (case hT => walk_at "lk"); (case ht => walk_at "ty"); (case hk => decide +kernel); (case hk2 => decide +kernel))
  | (with_reducible refine r_iteNT ?_)
  | ((show (if (!true) = true then _ else _)); refine r_iteNT ?_)
  | (with_reducible refine r_r1 ?_)
  | (with_reducible refine r_maks ?_)
  | (with_reducible refine r_sfld ?_)
  | ((with_reducible refine' r_sfldE ?h1 ?h2 ?h3 ?h4 ?_); (case h1 => walk_at "lk"); (case h2 => assumption); (case h3 => assumption); (case h4 => exact (show _ + 1 ≤ 1000 from Nat.le_of_ble_eq_true rfl)))
  | (with_reducible refine r_fld ?_)
  | (with_reducible refine r_join ?_)
  | (with_reducible refine r_jcons ?_)
  | (with_reducible refine r_jnil ?_)
  | ((with_reducible refine r_rLenY ?hz ?_); (case hz => first | assumption | (refine Nat.le_trans ?_ (by decide : 100000 ≤ sizeLine); omega)))
  | (with_reducible refine r_par ?_)
  | (with_reducible refine r_pair ?_)
  | (with_reducible refine r_par3 ?_)
  | (with_reducible refine r_trip ?_)
  | ((with_reducible refine' r_gtup ?h1 ?h2 ?_); (case h1 => first | assumption | exact SqT.of (by walk_at "lk")); (case h2 => exact rfl))
  | (with_reducible refine r_gcons ?_)
  | (with_reducible refine r_gnil ?_)
  | ((with_reducible refine' r_slL ?h1 ?_); (case h1 => first | assumption | exact SqL.of (by walk_at "lk")); (intro p hp))
  | (with_reducible refine r_iTup ?_)
  | ((with_reducible refine' r_tupE ?h1 ?_); (case h1 => first | assumption | exact SqT.of (by walk_at "lk")))
  | (with_reducible refine r_m1 ?_)
  | (with_reducible refine r_isZ ?_)
  | (with_reducible refine r_sl ?_)
  | (with_reducible refine r_noPart ?_)
  | (with_reducible refine r_part ?_)
  | (with_reducible refine r_partE ?_)
  | ((with_reducible refine r_slS ?hz ?_); (case hz => first | assumption | (refine Nat.le_trans ?_ (by decide : 100000 ≤ sizeLine); omega)))
  | ((with_reducible refine' r_inT ?h1 ?h2 ?h3 ?_); (case h1 => first | assumption | (exact SqT.of (by walk_at "lk"))); (case h2 => exact rfl); (case h3 => exact rfl))
  | ((with_reducible refine' r_inL ?h1 ?h2 ?h3 ?_); (case h1 => first | assumption | (exact SqL.of (by walk_at "lk"))); (case h2 => exact rfl); (case h3 => exact rfl))
  | (with_reducible refine r_lc ?_)
  | (with_reducible refine r_for ?_)
  | (with_reducible refine r_iStr ?_)
  | (with_reducible refine r_strE ?_)
  | (with_reducible refine r_iList ?_)
  | ((with_reducible refine' r_listE ?h1 ?_); (case h1 => first | assumption | exact SqL.of (by walk_at "lk")))
  | (with_reducible refine r_iRng1 ?_)
  | ((with_reducible refine' r_rngE ?h0 ?h1 ?_); (case h0 => first | omega | (split <;> omega)); (case h1 => first | omega | (split <;> omega))))
local macro_rules | `(tactic| walk_at "rd") => `(tactic| (repeat walk_at "rd2"))
local macro_rules | `(tactic| walk_at "st") => `(tactic| (repeat (first
  | (with_reducible refine r_gname ?_)
  | (with_reducible refine r_next ?_)
  | (with_reducible refine r_seq ?_)
  | (with_reducible refine r_asg ?_)
  | (with_reducible refine r_ret ?_)
  | (with_reducible refine r_for ?_)
  | (with_reducible refine r_iRng1 ?_)
  | (with_reducible refine r_iList ?_)
  | (with_reducible refine r_cons ?_)
  | (with_reducible refine r_par ?_)
  | (with_reducible refine r_par3 ?_))))
section
variable {P : Program} {w : World} {K : PySem.W.Frag} {mg : Str → Option Value} {base : Heap}
def inByte (i : Int) : Bool := decide (0 ≤ i) && decide (i ≤ 255)
def spRow : Sp := fun vs H Q _ => ∃ (a : Addr) (ns : List Int), vs = [.ref a] ∧ H a = some (.lst (ns.map V.int)) ∧ ns.length ≤ 70000 ∧ ∀ H', Same H H' → Q (.bl (ns.all inByte)) H'
theorem ok_row {f : Addr} {fd : FuncData} {k : Nat} (F : Fun K "is_row_of_bytes" "is_row_of_bytes" s_is_row_of_bytes f fd) (c_within : CalT P w K mg base 2 "is_integer_within" spWithin)
    (m1 : mg "isinstance" = none) (m2 : mg "list" = none) (m3 : mg "tuple" = none) (m4 : mg "all" = none) : FnOk P w K mg base CX0 (k + 3) f fd ["thing"] spRow := by
  refine F.ok sc_is_row_of_bytes (fun vs H Q E h => ?_) (fun cdv A outer s H vs Q E hr h => ?_)
  · obtain ⟨a, ns, rfl, _⟩ := h
    rfl
  · obtain ⟨a, ns, rfl, ha, hz, q⟩ := h
    have hu := hu_of hr
    have nd := sc_is_row_of_bytes.nd
    refine ⟨_, (pss_cons (ps_if (pt_not (pt_val (pe_callB (call_isiK2 K) (by rfl) (by assumption) (by decide +kernel) (pa_cons (pv 0) (pa_cons (pe_tup (pa_cons (pe_bltn (v := .ty "list") (by rfl) (by assumption) (by decide +kernel) rfl) (pa_cons (pe_bltn (v := .ty "tuple") (by rfl) (by assumption) (by decide +kernel) rfl) pa_nil))) pa_nil)))))
        (pss_one (ps_ret pe_bl))
        pss_nil)
      (pss_one (ps_ret (pe_callB (call_allK K) (by rfl) (by assumption) (by decide +kernel) (pa_cons (pe_lc (own := [("number", 1)]) (g := (gName 1)) (tt := tYes) rfl nd (pi_list (pv 0)) (blkOk_by (N := N_is_row_of_bytes) (sc := defScope s_is_row_of_bytes) (by decide +kernel)) (fun _ _ _ _ _ => (pg_name (i := 1) nd rfl (Or.inl rfl))) (fun _ _ _ _ _ => pts_nil) (fun _ _ _ _ _ => (pe_cc c_within hr (by omega) (by rfl) (pa_cons (pv 1) (pa_cons pe_int (pa_cons pe_int pa_nil)))))) pa_nil))))), ?_⟩
    walk_at "rd"
    intro D hD
    refine lc_map (cs := ns) (enc := V.int) (f := fun i => V.bl (inByte i)) walk_list hD (Nat.lt_of_le_of_lt hz (by decide)) (fun H' e => SqL.of (e _ _ (by walk_at "lk"))) (fun x => rfl) ?_ ?_
    · intro c hc H' e Q' k'
      walk_at "rd"
      exact sp_within (k' _ (Same.refl _))
    · intro H' e hl
      walk_at "rd"
      refine r_all (bs := ns.map inByte) (by rw [List.map_map]; exact SqL.of hl) ?_
      have e2 : (ns.map inByte).all id = ns.all inByte := by rw [List.all_map]; rfl
      rw [e2]
      exact q H' (fun b o x => e b o (by walk_at "lk"))
theorem sp_row {a : Addr} {ns : List Int} {H : Hp} {Q : VK} {E : XK} (ha : H a = some (.lst (ns.map V.int))) (hz : ns.length ≤ 70000) (k : ∀ H', Same H H' → Q (.bl (ns.all inByte)) H') : spRow ([.ref a] ++ []) H Q E := ⟨a, ns, rfl, ha, hz, k⟩
def spBlob : Sp := fun vs H Q _ => ∃ (a : Addr) (ns : List Int), vs = [.ref a] ∧ H a = some (.lst (ns.map V.int)) ∧ ns.length ≤ 70000 ∧ ns.all inByte = true ∧ ∀ H', Same H H' → Q (.byt (byteArr ns)) H'
theorem sp_blob {a : Addr} {ns : List Int} {H : Hp} {Q : VK} {E : XK} (ha : H a = some (.lst (ns.map V.int))) (hz : ns.length ≤ 70000) (hb : ns.all inByte = true) (k : ∀ H', Same H H' → Q (.byt (byteArr ns)) H') : spBlob ([.ref a] ++ []) H Q E := ⟨a, ns, rfl, ha, hz, hb, k⟩
theorem ok_blob {f : Addr} {fd : FuncData} {k : Nat} (F : Fun K "blob" "blob" s_blob f fd) (c_row : CalT P w K mg base 3 "is_row_of_bytes" spRow) (m1 : mg "bytes" = none) : FnOk P w K mg base CX0 (k + 4) f fd ["numbers"] spBlob := by
  refine F.ok sc_blob (fun vs H Q E h => ?_) (fun cdv A outer s H vs Q E hr h => ?_)
  · obtain ⟨a, ns, rfl, _⟩ := h
    rfl
  · obtain ⟨a, ns, rfl, ha, hz, hb, q⟩ := h
    have hu := hu_of hr
    have nd := sc_blob.nd
    refine ⟨_, (pss_cons (ps_if (pt_not (pt_val (pe_cc c_row hr (by omega) (by rfl) (pa_cons (pv 0) pa_nil))))
        (pss_one ps_never)
        pss_nil)
      (pss_one (ps_ret (pe_bytesOf rfl (by rfl) (by assumption) (pv 0))))), ?_⟩
    walk_at "rd"
    refine sp_row ha hz (fun H' e => ?_)
    rw [hb]
    walk_at "rd"
    refine r_bytesL (SqL.of (e _ _ ha)) (fun n hn => ?_) (q H' e)
    have h1 := List.all_eq_true.mp hb n hn
    unfold inByte at h1
    simp only [Bool.and_eq_true, decide_eq_true_eq] at h1
    omega
/-! ### names -/
def NC : Str := "abcdefghijklmnopqrstuvwxyz0123456789._-/"
def nameB (z : Str) : Bool := decide (1 ≤ z.length) && decide (z.length ≤ 250) && z.cps.toList.all (fun c => decide (c ∈ NC.cps.toList))
def nameV : V → Bool
  | .str z => nameB z
  | _ => false
/-- a text of up to 5000 signs, or a value of another kind -/
def AnyS (K : PySem.W.Frag) (H : Hp) (x : V) : Prop := (∃ z : Str, x = .str z ∧ z.length ≤ 5000) ∨ (nameV x = false ∧ ∃ T, TyX K H x (.type T) ∧ kitB T "str" = some false)
theorem AnyS.same {H H' : Hp} {x : V} (e : Same H H') (h : AnyS K H x) : AnyS K H' x := by
  rcases h with h | ⟨h, T, h1, h2⟩
  · exact .inl h
  · exact .inr ⟨h, T, same_tyB e h1, h2⟩
def spName (K : PySem.W.Frag) : Sp := fun vs H Q _ => ∃ x, vs = [x] ∧ AnyS K H x ∧ ∀ H', Same H H' → Q (.bl (nameV x)) H'
theorem sp_name {x : V} {H : Hp} {Q : VK} {E : XK} (ha : AnyS K H x) (k : ∀ H', Same H H' → Q (.bl (nameV x)) H') : spName K ([x] ++ []) H Q E := ⟨x, rfl, ha, k⟩
theorem ok_name {f : Addr} {fd : FuncData} {k : Nat} {t1 t2 : Tok} (F : Fun K "is_name" "is_name" s_is_name f fd) (m1 : mg "isinstance" = none) (m2 : mg "str" = none) (m3 : mg "len" = none) (m4 : mg "all" = none)
    (m_MOST : mg "MOST_CHARACTERS" = some (.int 250 t1)) (m_NC : mg "NAME_CHARACTERS" = some (.str NC t2)) : FnOk P w K mg base CX0 (k + 2) f fd ["thing"] (spName K) := by
  refine F.ok sc_is_name (fun vs H Q E h => ?_) (fun cdv A outer s H vs Q E hr h => ?_)
  · obtain ⟨x, rfl, _⟩ := h
    rfl
  · obtain ⟨x, rfl, hx, q⟩ := h
    have hu := hu_of hr
    have nd := sc_is_name.nd
    refine ⟨_, (pss_cons (ps_if (PW.pt (pw_or (pt_not (pt_val (pe_callB (call_isiK1 K) (by rfl) (by assumption) (by decide +kernel) (pa_cons (pv 0) (pa_cons (pe_bltn (v := .ty "str") (by rfl) (by assumption) (by decide +kernel) rfl) pa_nil))))) (pw_or1 (pt_not (pt_chain op_le op_le pe_int (pe_callB call_rLenZ (by rfl) (by assumption) (by decide +kernel) (pa_cons (pv 0) pa_nil)) (pe_glob (v := .int 250) (by rfl) m_MOST (by first | exact rfl | exact ⟨_, rfl⟩)))))))
        (pss_one (ps_ret pe_bl))
        pss_nil)
      (pss_one (ps_ret (pe_callB (call_allK K) (by rfl) (by assumption) (by decide +kernel) (pa_cons (pe_lc (own := [("character", 1)]) (g := (gName 1)) (tt := tYes) rfl nd (pi_str (pv 0)) (blkOk_by (N := N_is_name) (sc := defScope s_is_name) (by decide +kernel)) (fun _ _ _ _ _ => (pg_name (i := 1) nd rfl (Or.inl rfl))) (fun _ _ _ _ _ => pts_nil) (fun _ _ _ _ _ => (pe_cmpR op_inSign (pv 1) (pe_glob (v := .str NC) (by rfl) m_NC (by first | exact rfl | exact ⟨_, rfl⟩)) (by rfl)))) pa_nil))))), ?_⟩
    rcases hx with ⟨z, rfl, hz⟩ | ⟨hx, T, h1, h2⟩
    · have hz' : z.length ≤ sizeLine := Nat.le_trans hz (by decide)
      have q' : ∀ H', Same H H' → Q (.bl (nameB z)) H' := q
      unfold nameB at q'
      walk_at "rd"
      refine r_iteD (fun h1 => ?_) (fun h1 => ?_)
      · walk_at "rd"
        refine r_iteN (fun h2 => ?_) (fun h2 => ?_)
        · walk_at "rd"
          have h3 : ¬ z.length ≤ 250 := by have := of_decide_eq_false h2; omega
          rw [decide_eq_false h3, Bool.and_false, Bool.false_and] at q'
          exact q' _ (Same.refl _)
        · walk_at "rd"
          intro D hD
          refine lc_map (cs := z.cps.toList) (enc := fun c => V.str ⟨#[c]⟩) (f := fun c => V.bl (decide (c ∈ NC.cps.toList))) walk_strC hD (by have : z.cps.size ≤ 5000 := hz; rw [Array.length_toList]; exact Nat.lt_of_le_of_lt this (by decide)) (fun H' e => True.intro) (fun x => rfl) ?_ ?_
          · intro c hc H' e Q' k'
            walk_at "rd"
            exact k' _ (Same.refl _)
          · intro H' e hl
            walk_at "rd"
            refine r_all (bs := z.cps.toList.map fun c => decide (c ∈ NC.cps.toList)) (by rw [List.map_map]; exact SqL.of hl) ?_
            have h3 : z.length ≤ 250 := by have := of_decide_eq_true h2; omega
            have h1' : 1 ≤ z.length := by omega
            rw [decide_eq_true h3, decide_eq_true h1', Bool.true_and, Bool.true_and] at q'
            have e2 : (z.cps.toList.map fun c => decide (c ∈ NC.cps.toList)).all id = z.cps.toList.all fun c => decide (c ∈ NC.cps.toList) := by rw [List.all_map]; rfl
            rw [e2]
            exact q' H' e
      · walk_at "rd"
        have h3 : ¬ 1 ≤ z.length := by omega
        rw [decide_eq_false h3, Bool.false_and, Bool.false_and] at q'
        exact q' _ (Same.refl _)
    · walk_at "rd"
      rw [hx] at q
      exact q _ (Same.refl _)
end
end Th
namespace Th
open PySem PySem.Spec PyProof.Rows L2
local macro_rules | `(tactic| walk_at "lk") => `(tactic| first
  | assumption
  | exact upd_same
  | (refine upd_old (by assumption) ?_; walk_at "lk")
  | (refine upd_diff (by assumption) ?_; walk_at "lk")
  | (refine upd_diff (Ne.symm (by assumption)) ?_; walk_at "lk"))
local macro_rules | `(tactic| walk_at "cnd") => `(tactic| first
  | omega
  | (refine ⟨by omega, by omega⟩)
  | (refine ⟨by omega, by omega, by omega⟩)
  | (refine .inl ⟨by omega, by omega⟩)
  | (refine .inr ⟨by omega, by omega⟩)
  | (exact (show CPow _ _ from ⟨by decide, by decide, by omega⟩))
  | decide +kernel
  | (unfold CMulW; decide +kernel)
  | (exact wide_div (b := 64) (by omega) (by omega) (by decide) (by decide)))
local macro_rules | `(tactic| walk_at "rd1") => `(tactic| first
  | (with_reducible refine r_seq ?_)
  | (with_reducible refine r_asg ?_)
  | (with_reducible refine r_ret ?_)
  | (with_reducible refine r_if ?_)
  | (with_reducible refine r_gname ?_)
  | ((with_reducible refine' r_var ?hv ?_); (case hv => exact rfl))
  | (with_reducible refine r_c ?_)
  | (with_reducible refine r_op ?_)
  | (with_reducible refine r_I0 ?_)
  | ((with_reducible refine r_I ?hc ?_); (case hc => walk_at "cnd"))
  | (with_reducible refine r_test ?_)
  | (with_reducible refine r_tB ?_)
  | (with_reducible refine r_bl ?_)
  | (with_reducible refine r_not ?_)
  | (with_reducible refine r_and ?_)
  | (with_reducible refine r_or ?_)
  | (with_reducible refine r_ifE ?_)
  | (with_reducible refine r_notV ?_)
  | (with_reducible refine r_andV ?_)
  | (with_reducible refine r_orV ?_)
  | (with_reducible refine r_chain ?_)
  | (with_reducible refine r_cb ?_)
  | (with_reducible refine r_call ?_)
  | (with_reducible refine r_callN ?_)
  | (with_reducible refine r_nil ?_)
  | (with_reducible refine r_cons ?_)
  | ((with_reducible refine r_lst ?_))
  | ((with_reducible refine r_tup ?_))
  | ((with_reducible refine r_new ?_ ?_); (exact Nat.le_of_ble_eq_true rfl); (intro p hp))
  | (with_reducible refine r_rInt1 ?_)
  | (with_reducible refine r_rIntB ?_)
  | (with_reducible refine r_rAbs ?_)
  | (with_reducible refine r_rMin2 ?_)
  | (with_reducible refine r_rMax2 ?_)
  | ((with_reducible refine r_rLenZ ?hz ?_); (case hz => first | assumption | exact Nat.le_of_ble_eq_true rfl | (refine Nat.le_trans ?_ (by decide : 100000 ≤ sizeLine); omega)))
  | ((with_reducible refine r_addZ ?hz ?_); (case hz => (refine Nat.le_trans ?_ (by decide : 100000 ≤ sizeLine); first | omega | (simp only [Str.length] at *; simp; omega))))
  | ((with_reducible refine r_mulZ ?hz ?h0 ?h1 ?_); (case hz => first | omega | exact Nat.le_of_ble_eq_true rfl); (case h0 => omega); (case h1 => omega))
  | ((with_reducible refine' r_rLenQ ?h1 ?_); (case h1 => first | (exact .inl (by assumption)) | (exact .inr (by assumption)) | (exact .inl (SqL.of (by walk_at "lk"))) | (exact .inr (SqT.of (by walk_at "lk")))))
  | ((with_reducible refine r_eq ?hs ?_); (case hs => exact rfl))
  | ((with_reducible refine r_ne ?hs ?_); (case hs => exact rfl))
  | (with_reducible refine r_inC ?_)
  | ((with_reducible refine' r_cat ?h1 ?h2 ?h3 ?_); (case h1 => walk_at "lk"); (case h2 => walk_at "lk"); (case h3 => exact Nat.le_of_ble_eq_true rfl); (intro p hp))
  | ((with_reducible refine' r_rep ?h1 ?h2 ?h3 ?h4 ?_); (case h1 => walk_at "lk"); (case h2 => omega); (case h3 => omega); (case h4 => exact Nat.le_of_ble_eq_true rfl); (intro p hp))
  | ((with_reducible refine' r_append ?h1 ?h2 ?_); (case h1 => walk_at "lk"); (case h2 => first | exact (show _ + 1 ≤ sizeLine from Nat.le_of_ble_eq_true rfl) | exact Nat.lt_of_le_of_lt (by omega : _ ≤ 100000) (by decide)))
  | (with_reducible refine r_bm ?_)
  | ((with_reducible refine' r_tyL ?h1 ?_); (case h1 => walk_at "lk"))
  | ((with_reducible refine' r_ixL ?h1 ?h2 ?_); (case h1 => first | assumption | exact SqL.of (by walk_at "lk")); (case h2 => exact rfl))
  | ((with_reducible refine' r_ixT ?h1 ?h2 ?_); (case h1 => first | assumption | exact SqT.of (by walk_at "lk")); (case h2 => exact rfl))
  | (with_reducible refine r_gsub ?_)
  | ((with_reducible refine' r_setL ?h1 ?h2 ?_); (case h1 => walk_at "lk"); (case h2 => exact rfl))
  | (with_reducible refine r_un ?_)
  | (with_reducible refine r_neg ?_)
  | (with_reducible refine r_iteT ?_)
  | (with_reducible refine r_iteNT ?_)
  | (with_reducible refine r_iteNF ?_)
  | (with_reducible refine r_iteF ?_)
  | (with_reducible refine r_next ?_)
  | (with_reducible refine r_drop ?_)
  | (with_reducible refine r_cont ?_)
  | (with_reducible refine r_brk ?_))
local macro_rules | `(tactic| walk_at "ty") => `(tactic| first
  | assumption
  | exact .base (.int _)
  | exact .base (.str _)
  | exact .base (.bl _)
  | exact .base .non
  | exact .byt _
  | exact .base (.lst (by walk_at "lk"))
  | exact .base (.tup (by walk_at "lk")))
local macro_rules | `(tactic| walk_at "rd2") => `(tactic| first
  | walk_at "rd1"
  | ((with_reducible refine' r_isi true ?ht ?hk ?_); (case ht => walk_at "ty"); (case hk => first | assumption | decide +kernel))
  | ((with_reducible refine' r_isi false ?ht ?hk ?_); (case ht => walk_at "ty"); (case hk => first | assumption | decide +kernel))
  | ((with_reducible refine' r_isiT2 true true ?hT ?ht ?hk ?hk2 ?_); (case hT => walk_at "lk"); (case ht => walk_at "ty"); (case hk => decide +kernel); (case hk2 => decide +kernel))
  | ((with_reducible refine' r_isiT2 true false ?hT ?ht ?hk ?hk2 ?_); (case hT => walk_at "lk"); (case ht => walk_at "ty"); (case hk => decide +kernel); (case hk2 => decide +kernel))
  | ((with_reducible refine' r_isiT2 false true ?hT ?ht ?hk ?hk2 ?_); (case hT => walk_at "lk"); (case ht => walk_at "ty"); (case hk => decide +kernel); (case hk2 => decide +kernel))
  | ((with_reducible refine' r_isiT2 false false ?hT ?ht ?hk ?hk2 ?_); (case hT => walk_at "lk"); (case ht => walk_at "ty"); (case hk => decide +kernel); (case hk2 => decide +kernel))
  | (with_reducible refine r_iteNT ?_)
  | ((show (if (!true) = true then _ else _)); refine r_iteNT ?_)
  | (with_reducible refine r_r1 ?_)
  | (with_reducible refine r_maks ?_)
  | (with_reducible refine r_sfld ?_)
  | ((with_reducible refine' r_sfldE ?h1 ?h2 ?h3 ?h4 ?_); (case h1 => walk_at "lk"); (case h2 => assumption); (case h3 => assumption); (case h4 => exact (show _ + 1 ≤ 1000 from Nat.le_of_ble_eq_true rfl)))
  | (with_reducible refine r_fld ?_)
  | (with_reducible refine r_join ?_)
  | (with_reducible refine r_jcons ?_)
  | (with_reducible refine r_jnil ?_)
  | ((with_reducible refine r_rLenY ?hz ?_); (case hz => first | assumption | (refine Nat.le_trans ?_ (by decide : 100000 ≤ sizeLine); omega)))
  | (with_reducible refine r_par ?_)
  | (with_reducible refine r_pair ?_)
  | (with_reducible refine r_par3 ?_)
  | (with_reducible refine r_trip ?_)
  | ((with_reducible refine' r_gtup ?h1 ?h2 ?_); (case h1 => first | assumption | exact SqT.of (by walk_at "lk")); (case h2 => exact rfl))
  | (with_reducible refine r_gcons ?_)
  | (with_reducible refine r_gnil ?_)
  | ((with_reducible refine' r_slL ?h1 ?_); (case h1 => first | assumption | exact SqL.of (by walk_at "lk")); (intro p hp))
  | (with_reducible refine r_iTup ?_)
  | ((with_reducible refine' r_tupE ?h1 ?_); (case h1 => first | assumption | exact SqT.of (by walk_at "lk")))
  | (with_reducible refine r_m1 ?_)
  | (with_reducible refine r_isZ ?_)
  | (with_reducible refine r_sl ?_)
  | (with_reducible refine r_noPart ?_)
  | (with_reducible refine r_part ?_)
  | (with_reducible refine r_partE ?_)
  | ((with_reducible refine r_slS ?hz ?_); (case hz => first | assumption | (refine Nat.le_trans ?_ (by decide : 100000 ≤ sizeLine); omega)))
  | ((with_reducible refine' r_inT ?h1 ?h2 ?h3 ?_); (case h1 => first | assumption | (exact SqT.of (by walk_at "lk"))); (case h2 => exact rfl); (case h3 => exact rfl))
  | ((with_reducible refine' r_inL ?h1 ?h2 ?h3 ?_); (case h1 => first | assumption | (exact SqL.of (by walk_at "lk"))); (case h2 => exact rfl); (case h3 => exact rfl))
  | (with_reducible refine r_lc ?_)
  | (with_reducible refine r_for ?_)
  | (with_reducible refine r_iStr ?_)
  | (with_reducible refine r_strE ?_)
  | (with_reducible refine r_iList ?_)
  | ((with_reducible refine' r_listE ?h1 ?_); (case h1 => first | assumption | exact SqL.of (by walk_at "lk")))
  | (with_reducible refine r_iRng1 ?_)
  | ((with_reducible refine' r_rngE ?h0 ?h1 ?_); (case h0 => first | omega | (split <;> omega)); (case h1 => first | omega | (split <;> omega))))
local macro_rules | `(tactic| walk_at "rd") => `(tactic| (repeat walk_at "rd2"))
local macro_rules | `(tactic| walk_at "st") => `(tactic| (repeat (first
  | (with_reducible refine r_gname ?_)
  | (with_reducible refine r_next ?_)
  | (with_reducible refine r_seq ?_)
  | (with_reducible refine r_asg ?_)
  | (with_reducible refine r_ret ?_)
  | (with_reducible refine r_for ?_)
  | (with_reducible refine r_iRng1 ?_)
  | (with_reducible refine r_iList ?_)
  | (with_reducible refine r_cons ?_)
  | (with_reducible refine r_par ?_)
  | (with_reducible refine r_par3 ?_))))
section
variable {P : Program} {w : World} {K : PySem.W.Frag} {mg : Str → Option Value} {base : Heap}
def spSource (K : PySem.W.Frag) : Sp := fun vs H Q _ => ∃ (a : Addr) (ns : List Int) (i : Nat), vs = [.ref a, .int (i : Int)] ∧ SqL K H a (ns.map V.int) ∧ ns.length ≤ 63 ∧ i ≤ 63 ∧ ∀ p H', H p = none → Same H H' → Src H' p → Q (.ref p) H'
theorem sp_source {a : Addr} {ns : List Int} {i : Nat} {H : Hp} {Q : VK} {E : XK} (hs : SqL K H a (ns.map V.int)) (hz : ns.length ≤ 63) (hi : i ≤ 63) (k : ∀ p H', H p = none → Same H H' → Src H' p → Q (.ref p) H') : spSource K ([.ref a, .int (i : Int)] ++ []) H Q E := ⟨a, ns, i, rfl, hs, hz, hi, k⟩
theorem ints_at {ns : List Int} {i : Nat} (h : i < ns.length) : (ns.map V.int)[i]? = some (.int ns[i]) := by rw [List.getElem?_map, List.getElem?_eq_getElem h]; rfl
theorem ok_source {f : Addr} {fd : FuncData} {k : Nat} (F : Fun K "_law_source" "_law_source" s__law_source f fd) (m1 : mg "len" = none) (m2 : mg "int" = none) (m3 : mg "abs" = none) (m4 : mg "min" = none) (m5 : mg "range" = none) :
    FnOk P w K mg base CX0 (k + 2) f fd ["_law_script", "_law_at"] (spSource K) := by
  refine F.ok sc__law_source (fun vs H Q E h => ?_) (fun cdv A outer s H vs Q E hr h => ?_)
  · obtain ⟨a, ns, i, rfl, _⟩ := h
    rfl
  · obtain ⟨a, ns, i, rfl, hS, hz, hi, q⟩ := h
    have hu := hu_of hr
    have nd := sc__law_source.nd
    have hml : (ns.map V.int).length = ns.length := List.length_map ..
    refine ⟨_, (pss_cons (ps_set (i := 2) nd rfl (Or.inl rfl) (pe_ifExp (pt_cmpR op_lt (pv 1) (pe_callB (call_lenK K) (by rfl) (by assumption) (by decide +kernel) (pa_cons (pv 0) pa_nil)) (nomark _)) (pe_ix (ix_listK K) (pv 0) (pv 1) (fun _ _ => rfl)) pe_int))
      (pss_cons (ps_set (i := 3) nd rfl (Or.inl rfl) (pe_ifExp (pt_cmpR op_ge (pe_callB call_rAbs (by rfl) (by assumption) (by decide +kernel) (pa_cons (pv 2) pa_nil)) (pe_op op_pow pe_int pe_int) (nomark _)) (pe_op op_mod (pe_callTy call_rInt1 (by rfl) (by assumption) (by decide +kernel) (pa_cons (pe_callB call_rAbs (by rfl) (by assumption) (by decide +kernel) (pa_cons (pv 2) pa_nil)) pa_nil)) (pe_op op_mulW (pe_op op_mulW (pe_op op_pow pe_int pe_int) (pe_op op_pow pe_int pe_int)) (pe_op op_pow pe_int pe_int))) pe_int))
      (pss_cons (ps_set (i := 4) nd rfl (Or.inl rfl) (pe_op op_mod (pe_callTy call_rInt1 (by rfl) (by assumption) (by decide +kernel) (pa_cons (pe_op op_add (pe_op op_add (pv 2) (pe_op op_mul pe_int (pv 1))) pe_int) pa_nil)) pe_int))
      (pss_cons (ps_for PassesOwn.never rfl (pi_range1 (by rfl) (by assumption) (pa_cons (pe_callB call_rMin2 (by rfl) (by assumption) (by decide +kernel) (pa_cons (pe_callB (call_lenK K) (by rfl) (by assumption) (by decide +kernel) (pa_cons (pv 0) pa_nil)) (pa_cons pe_int pa_nil))) pa_nil)) (pg_name (i := 5) nd rfl (Or.inl rfl))
        (pss_one (ps_set (i := 4) nd rfl (Or.inl rfl) (pe_op op_mod (pe_callTy call_rInt1 (by rfl) (by assumption) (by decide +kernel) (pa_cons (pe_op op_add (pe_op op_add (pe_op op_pow (pv 4) pe_int) (pe_op op_mod (pe_callTy call_rInt1 (by rfl) (by assumption) (by decide +kernel) (pa_cons (pe_ix (ix_listK K) (pv 0) (pv 5) (fun _ _ => rfl)) pa_nil)) pe_int)) (pe_op op_mul pe_int (pv 5))) pa_nil)) pe_int))))
      (pss_one (ps_ret (pe_lst (pa_cons (pv 3) (pa_cons (pv 4) (pa_cons pe_int pa_nil)))))))))), ?_⟩
    walk_at "rd"
    refine r_joinI (fun _ => True) (fun cell _ => ?_) (fun Q' k h1 => ?_) (fun Q' k h1 => ?_)
    · walk_at "rd"
      refine r_joinI (fun large => 0 ≤ large) (fun large hl => ?_) (fun Q' k h1 => ?_) (fun Q' k h1 => ?_)
      · walk_at "rd"
        refine for_it (walk_range (lo := 0) (n := (if (9 : Int) < ↑(ns.map V.int).length then 9 else ↑(ns.map V.int).length : Int).toNat)) (fun j σ H' => ∃ (mix : Int) (v : Option V), σ = [some (.ref a), some (.int (i : Int)), some (.int cell), some (.int large), some (.int mix), v] ∧ H' = H ∧ 0 ≤ mix ∧ mix < 2147483647) ?_ (fun _ _ _ _ _ => True.intro) ?_ ?_
        · exact ⟨_, _, rfl, rfl, Int.emod_nonneg _ (by decide), Int.emod_lt_of_pos _ (by decide)⟩
        · rintro j x σ Hc H' hj ⟨mix, v, rfl, rfl, hm0, hm1⟩ ⟨rfl, rfl⟩
          have hj' : j < ns.length := by rw [hml] at hj; split at hj <;> omega
          walk_at "rd"
          refine r_ixL hS (i := (0 : Int) + (j : Int)) (by rw [Int.zero_add]; exact atI_nat (ints_at hj')) ?_
          walk_at "rd"
          exact ⟨_, _, rfl, rfl, Int.emod_nonneg _ (by decide), Int.emod_lt_of_pos _ (by decide)⟩
        · rintro σ Hc ⟨mix, v, rfl, rfl, hm0, hm1⟩
          walk_at "rd"
          rename_i p hp
          exact q p _ hp (same_new hp) ⟨large, mix, 0, upd_same, hl, hm0, hm1⟩
      · walk_at "rd"
        refine k _ (Int.emod_nonneg _ ?_)
        decide +kernel
      · walk_at "rd"
        exact k _ (by decide)
    · have hi' : i < ns.length := by omega
      walk_at "rd"
      refine r_ixL hS (atI_nat (ints_at hi')) ?_
      exact k _ True.intro
    · walk_at "rd"
      exact k _ True.intro
end
end Th
namespace Th
open PySem PySem.Spec PyProof.Rows L2
local macro_rules | `(tactic| walk_at "lk") => `(tactic| first
  | assumption
  | exact upd_same
  | (refine upd_old (by assumption) ?_; walk_at "lk")
  | (refine upd_diff (by assumption) ?_; walk_at "lk")
  | (refine upd_diff (Ne.symm (by assumption)) ?_; walk_at "lk"))
local macro_rules | `(tactic| walk_at "cnd") => `(tactic| first
  | omega
  | (refine ⟨by omega, by omega⟩)
  | (refine ⟨by omega, by omega, by omega⟩)
  | (refine .inl ⟨by omega, by omega⟩)
  | (refine .inr ⟨by omega, by omega⟩)
  | (exact (show CPow _ _ from ⟨by decide, by decide, by omega⟩))
  | decide +kernel
  | (unfold CMulW; decide +kernel)
  | (exact wide_div (b := 64) (by omega) (by omega) (by decide) (by decide)))
local macro_rules | `(tactic| walk_at "rd1") => `(tactic| first
  | (with_reducible refine r_seq ?_)
  | (with_reducible refine r_asg ?_)
  | (with_reducible refine r_ret ?_)
  | (with_reducible refine r_if ?_)
  | (with_reducible refine r_gname ?_)
  | ((with_reducible refine' r_var ?hv ?_); (case hv => exact rfl))
  | (with_reducible refine r_c ?_)
  | (with_reducible refine r_op ?_)
  | (with_reducible refine r_I0 ?_)
  | ((with_reducible refine r_I ?hc ?_); (case hc => walk_at "cnd"))
  | (with_reducible refine r_test ?_)
  | (with_reducible refine r_tB ?_)
  | (with_reducible refine r_bl ?_)
  | (with_reducible refine r_not ?_)
  | (with_reducible refine r_and ?_)
  | (with_reducible refine r_or ?_)
  | (with_reducible refine r_ifE ?_)
  | (with_reducible refine r_notV ?_)
  | (with_reducible refine r_andV ?_)
  | (with_reducible refine r_orV ?_)
  | (with_reducible refine r_chain ?_)
  | (with_reducible refine r_cb ?_)
  | (with_reducible refine r_call ?_)
  | (with_reducible refine r_callN ?_)
  | (with_reducible refine r_nil ?_)
  | (with_reducible refine r_cons ?_)
  | ((with_reducible refine r_lst ?_))
  | ((with_reducible refine r_tup ?_))
  | ((with_reducible refine r_new ?_ ?_); (exact Nat.le_of_ble_eq_true rfl); (intro p hp))
  | (with_reducible refine r_rInt1 ?_)
  | (with_reducible refine r_rIntB ?_)
  | (with_reducible refine r_rAbs ?_)
  | (with_reducible refine r_rMin2 ?_)
  | (with_reducible refine r_rMax2 ?_)
  | ((with_reducible refine r_rLenZ ?hz ?_); (case hz => first | assumption | exact Nat.le_of_ble_eq_true rfl | (refine Nat.le_trans ?_ (by decide : 100000 ≤ sizeLine); omega)))
  | ((with_reducible refine r_addZ ?hz ?_); (case hz => (refine Nat.le_trans ?_ (by decide : 100000 ≤ sizeLine); first | omega | (simp only [Str.length] at *; simp; omega))))
  | ((with_reducible refine r_mulZ ?hz ?h0 ?h1 ?_); (case hz => first | omega | exact Nat.le_of_ble_eq_true rfl); (case h0 => omega); (case h1 => omega))
  | ((with_reducible refine' r_rLenQ ?h1 ?_); (case h1 => first | (exact .inl (by assumption)) | (exact .inr (by assumption)) | (exact .inl (SqL.of (by walk_at "lk"))) | (exact .inr (SqT.of (by walk_at "lk")))))
  | ((with_reducible refine r_eq ?hs ?_); (case hs => exact rfl))
  | ((with_reducible refine r_ne ?hs ?_); (case hs => exact rfl))
  | (with_reducible refine r_inC ?_)
  | ((with_reducible refine' r_cat ?h1 ?h2 ?h3 ?_); (case h1 => walk_at "lk"); (case h2 => walk_at "lk"); (case h3 => exact Nat.le_of_ble_eq_true rfl); (intro p hp))
  | ((with_reducible refine' r_rep ?h1 ?h2 ?h3 ?h4 ?_); (case h1 => walk_at "lk"); (case h2 => omega); (case h3 => omega); (case h4 => exact Nat.le_of_ble_eq_true rfl); (intro p hp))
  | ((with_reducible refine' r_append ?h1 ?h2 ?_); (case h1 => walk_at "lk"); (case h2 => first | exact (show _ + 1 ≤ sizeLine from Nat.le_of_ble_eq_true rfl) | exact Nat.lt_of_le_of_lt (by omega : _ ≤ 100000) (by decide)))
  | (with_reducible refine r_bm ?_)
  | ((with_reducible refine' r_tyL ?h1 ?_); (case h1 => walk_at "lk"))
  | ((with_reducible refine' r_ixL ?h1 ?h2 ?_); (case h1 => first | assumption | exact SqL.of (by walk_at "lk")); (case h2 => exact rfl))
  | ((with_reducible refine' r_ixT ?h1 ?h2 ?_); (case h1 => first | assumption | exact SqT.of (by walk_at "lk")); (case h2 => exact rfl))
  | (with_reducible refine r_gsub ?_)
  | ((with_reducible refine' r_setL ?h1 ?h2 ?_); (case h1 => walk_at "lk"); (case h2 => exact rfl))
  | (with_reducible refine r_un ?_)
  | (with_reducible refine r_neg ?_)
  | (with_reducible refine r_iteT ?_)
  | (with_reducible refine r_iteNT ?_)
  | (with_reducible refine r_iteNF ?_)
  | (with_reducible refine r_iteF ?_)
  | (with_reducible refine r_next ?_)
  | (with_reducible refine r_drop ?_)
  | (with_reducible refine r_cont ?_)
  | (with_reducible refine r_brk ?_))
local macro_rules | `(tactic| walk_at "ty") => `(tactic| first
  | assumption
  | exact .base (.int _)
  | exact .base (.str _)
  | exact .base (.bl _)
  | exact .base .non
  | exact .byt _
  | exact .base (.lst (by walk_at "lk"))
  | exact .base (.tup (by walk_at "lk")))
local macro_rules | `(tactic| walk_at "rd2") => `(tactic| first
  | walk_at "rd1"
  | ((with_reducible refine' r_isi true ?ht ?hk ?_); (case ht => walk_at "ty"); (case hk => first | assumption | decide +kernel))
  | ((with_reducible refine' r_isi false ?ht ?hk ?_); (case ht => walk_at "ty"); (case hk => first | assumption | decide +kernel))
  | ((with_reducible refine' r_isiT2 true true ?hT ?ht ?hk ?hk2 ?_); (case hT => walk_at "lk"); (case ht => walk_at "ty"); (case hk => decide +kernel); (case hk2 => decide +kernel))
  | ((with_reducible refine' r_isiT2 true false ?hT ?ht ?hk ?hk2 ?_); (case hT => walk_at "lk"); (case ht => walk_at "ty"); (case hk => decide +kernel); (case hk2 => decide +kernel))
  | ((with_reducible refine' r_isiT2 false true ?hT ?ht ?hk ?hk2 ?_); (case hT => walk_at "lk"); (case ht => walk_at "ty"); (case hk => decide +kernel); (case hk2 => decide +kernel))
  | ((with_reducible refine' r_isiT2 false false ?hT ?ht ?hk ?hk2 ?_); (case hT => walk_at "lk"); (case ht => walk_at "ty"); (case hk => decide +kernel); (case hk2 => decide +kernel))
  | (with_reducible refine r_iteNT ?_)
  | ((show (if (!true) = true then _ else _)); refine r_iteNT ?_)
  | (with_reducible refine r_r1 ?_)
  | (with_reducible refine r_maks ?_)
  | (with_reducible refine r_sfld ?_)
  | ((with_reducible refine' r_sfldE ?h1 ?h2 ?h3 ?h4 ?_); (case h1 => walk_at "lk"); (case h2 => assumption); (case h3 => assumption); (case h4 => exact (show _ + 1 ≤ 1000 from Nat.le_of_ble_eq_true rfl)))
  | (with_reducible refine r_fld ?_)
  | (with_reducible refine r_join ?_)
  | (with_reducible refine r_jcons ?_)
  | (with_reducible refine r_jnil ?_)
  | ((with_reducible refine r_rLenY ?hz ?_); (case hz => first | assumption | (refine Nat.le_trans ?_ (by decide : 100000 ≤ sizeLine); omega)))
  | (with_reducible refine r_par ?_)
  | (with_reducible refine r_pair ?_)
  | (with_reducible refine r_par3 ?_)
  | (with_reducible refine r_trip ?_)
  | ((with_reducible refine' r_gtup ?h1 ?h2 ?_); (case h1 => first | assumption | exact SqT.of (by walk_at "lk")); (case h2 => exact rfl))
  | (with_reducible refine r_gcons ?_)
  | (with_reducible refine r_gnil ?_)
  | ((with_reducible refine' r_slL ?h1 ?_); (case h1 => first | assumption | exact SqL.of (by walk_at "lk")); (intro p hp))
  | (with_reducible refine r_iTup ?_)
  | ((with_reducible refine' r_tupE ?h1 ?_); (case h1 => first | assumption | exact SqT.of (by walk_at "lk")))
  | (with_reducible refine r_m1 ?_)
  | (with_reducible refine r_isZ ?_)
  | (with_reducible refine r_sl ?_)
  | (with_reducible refine r_noPart ?_)
  | (with_reducible refine r_part ?_)
  | (with_reducible refine r_partE ?_)
  | ((with_reducible refine r_slS ?hz ?_); (case hz => first | assumption | (refine Nat.le_trans ?_ (by decide : 100000 ≤ sizeLine); omega)))
  | ((with_reducible refine' r_inT ?h1 ?h2 ?h3 ?_); (case h1 => first | assumption | (exact SqT.of (by walk_at "lk"))); (case h2 => exact rfl); (case h3 => exact rfl))
  | ((with_reducible refine' r_inL ?h1 ?h2 ?h3 ?_); (case h1 => first | assumption | (exact SqL.of (by walk_at "lk"))); (case h2 => exact rfl); (case h3 => exact rfl))
  | (with_reducible refine r_lc ?_)
  | (with_reducible refine r_for ?_)
  | (with_reducible refine r_iStr ?_)
  | (with_reducible refine r_strE ?_)
  | (with_reducible refine r_iList ?_)
  | ((with_reducible refine' r_listE ?h1 ?_); (case h1 => first | assumption | exact SqL.of (by walk_at "lk")))
  | (with_reducible refine r_iRng1 ?_)
  | ((with_reducible refine' r_rngE ?h0 ?h1 ?_); (case h0 => first | omega | (split <;> omega)); (case h1 => first | omega | (split <;> omega))))
local macro_rules | `(tactic| walk_at "rd") => `(tactic| (repeat walk_at "rd2"))
local macro_rules | `(tactic| walk_at "st") => `(tactic| (repeat (first
  | (with_reducible refine r_gname ?_)
  | (with_reducible refine r_next ?_)
  | (with_reducible refine r_seq ?_)
  | (with_reducible refine r_asg ?_)
  | (with_reducible refine r_ret ?_)
  | (with_reducible refine r_for ?_)
  | (with_reducible refine r_iRng1 ?_)
  | (with_reducible refine r_iList ?_)
  | (with_reducible refine r_cons ?_)
  | (with_reducible refine r_par ?_)
  | (with_reducible refine r_par3 ?_))))
theorem But.refl (a : Addr) (H : Hp) : But a H H := fun _ _ _ e => e
theorem But.trans {a : Addr} {H H1 H2 : Hp} (x : But a H H1) (y : But a H1 H2) : But a H H2 := fun b o n e => y b o n (x b o n e)
theorem But.new {a p : Addr} {H H' : Hp} {o : HO} (hp : H p = none) (y : But a (upd H p o) H') : But a H H' := fun b u n e => y b u n (upd_old hp e)
theorem Same.but {a : Addr} {H H' : Hp} (e : Same H H') : But a H H' := fun b o _ h => e b o h
theorem Src.same {H H' : Hp} {a : Addr} (e : Same H H') (h : Src H a) : Src H' a := by
  obtain ⟨l, m, c, h1, h2⟩ := h
  exact ⟨l, m, c, e _ _ h1, h2⟩
theorem Src.new {H : Hp} {a p : Addr} {o : HO} (hp : H p = none) (h : Src H a) : Src (upd H p o) a := h.same (same_new hp)
theorem Src.ne {H : Hp} {a p : Addr} (h : Src H a) (hp : H p = none) : p ≠ a := by
  obtain ⟨l, m, c, h1, h2⟩ := h
  exact (ne_of_none h1 hp).symm
theorem pick_at {xs : List V} {d : Int} (h0 : 0 ≤ d) (h1 : d < (xs.length : Int)) : ∃ v, v ∈ xs ∧ atI xs d = some v := by
  have hd : d.toNat < xs.length := by omega
  refine ⟨xs[d.toNat], List.getElem_mem hd, ?_⟩
  have e : d = (d.toNat : Int) := by omega
  have h := atI_nat (List.getElem?_eq_getElem hd)
  rw [← e] at h
  exact h
section
variable {K : PySem.W.Frag} {σ : L2.St} {H : Hp} {Q : VK}
/-- one of a written list, drawn -/
theorem r_pick {a : Addr} {i : Nat} {n : Int} {ta : TA} (P : V → Prop) (hi : σ[i]? = some (some (.ref a))) (h0 : 0 < n) (h1 : n < 1000000)
    (hta : ∀ Q' : List V → Hp → Prop, (∀ xs H1, (xs.length : Int) = n → (∀ v ∈ xs, P v) → Src H1 a → But a H H1 → Q' xs H1) → ta σ H Q') (k : ∀ v H', P v → Src H' a → But a H H' → Q v H') :
    tOp (rIxL K) (tLst ta) (tCall spDraw [] E0 (tCons (tVar i) (tCons (tC (.int n)) tNil))) σ H Q := by
  refine r_op (r_lst (hta _ fun xs H1 hl hp hs hb => ?_))
  refine ⟨Nat.le_trans (by omega : xs.length ≤ 1000000) (by decide), fun p hp0 => ?_⟩
  refine r_call (r_cons (r_var hi (r_cons (r_c (r_nil ?_)))))
  refine sp_draw (hs.new hp0) h0 (by omega) (fun d H' d0 d1 hs' hb' => ?_)
  obtain ⟨v, hv, e⟩ := pick_at (xs := xs) d0 (by omega)
  exact r_ixL (SqL.of (hb' p _ (hs.ne hp0) upd_same)) e (k v H' (hp v hv) hs' (hb.trans (hb'.new hp0)))
/-- a sign of a written text, drawn -/
theorem r_pickS {a : Addr} {i : Nat} {z : Str} {n : Int} (hi : σ[i]? = some (some (.ref a))) (hn : (z.length : Int) = n) (h0 : 0 < n) (h1 : n < 1000000) (hs : Src H a) (k : ∀ c H', c ∈ z.cps.toList → Src H' a → But a H H' → Q (.str ⟨#[c]⟩) H') :
    tOp rIxS (tC (.str z)) (tCall spDraw [] E0 (tCons (tVar i) (tCons (tC (.int n)) tNil))) σ H Q := by
  refine r_op (r_c (r_call (r_cons (r_var hi (r_cons (r_c (r_nil ?_)))))))
  refine sp_draw hs h0 (by omega) (fun d H' d0 d1 hs' hb' => ?_)
  have hz : z.cps.toList.length = z.length := by simp [Str.length]
  have hd : d.toNat < z.cps.toList.length := by omega
  have e : d = (d.toNat : Int) := by omega
  have h := atI_nat (List.getElem?_eq_getElem hd)
  rw [← e] at h
  exact r_ixS (Nat.le_trans (by omega : z.length ≤ 1000000) (by decide)) h (k _ H' (List.getElem_mem hd) hs' hb')
end
def shortS (m : Nat) (v : V) : Prop := ∃ z : Str, v = .str z ∧ z.length ≤ m
def shortB (m : Nat) : V → Bool
  | .str z => decide (z.length ≤ m)
  | _ => false
theorem short_all {m : Nat} {xs : List V} (h : xs.all (shortB m) = true) : ∀ v ∈ xs, shortS m v := fun v hv => by
  have h1 := List.all_eq_true.mp h v hv
  cases v with
  | str z => exact ⟨z, rfl, of_decide_eq_true h1⟩
  | _ => cases h1
def intIn (lo hi : Int) (v : V) : Prop := ∃ i : Int, v = .int i ∧ lo ≤ i ∧ i ≤ hi
def intB (lo hi : Int) : V → Bool
  | .int i => decide (lo ≤ i) && decide (i ≤ hi)
  | _ => false
theorem int_all {lo hi : Int} {xs : List V} (h : xs.all (intB lo hi) = true) : ∀ v ∈ xs, intIn lo hi v := fun v hv => by
  have h1 := List.all_eq_true.mp h v hv
  cases v with
  | int i =>
    have h2 : (decide (lo ≤ i) && decide (i ≤ hi)) = true := h1
    simp only [Bool.and_eq_true, decide_eq_true_eq] at h2
    exact ⟨i, rfl, h2.1, h2.2⟩
  | _ => cases h1
theorem len_add (x y : Str) : (x ++ y).length = x.length + y.length := by
  rw [← SX.S_tl x, ← SX.S_tl y, SX.S_cat, SX.S_len, SX.S_len, SX.S_len, List.length_append]
theorem pick_lst {H : Hp} {p : Addr} {xs : List V} {d n : Int} (hl : H p = some (.lst xs)) (hn : (xs.length : Int) = n) (h0 : 0 ≤ d) (h1 : d < n) : ∃ v, v ∈ xs ∧ atI xs d = some v := pick_at h0 (by omega)
/-! ### the signs of names -/
def charsB (z : Str) : Bool := z.cps.toList.all fun c => decide (c ∈ NC.cps.toList)
theorem charsB_add {x y : Str} (hx : charsB x = true) (hy : charsB y = true) : charsB (x ++ y) = true := by
  unfold charsB at *
  have e : (x ++ y).cps.toList = x.cps.toList ++ y.cps.toList := TL.tl_append x y
  rw [e, List.all_append, hx, hy]
  rfl
theorem charsB_rep {z : Str} (k : Int) (hz : charsB z = true) : charsB (repZ z k) = true := by
  unfold charsB at *
  rw [repZ_list, List.all_eq_true]
  intro c hc
  obtain ⟨l, hl, hcl⟩ := List.mem_flatten.mp hc
  rw [List.eq_of_mem_replicate hl] at hcl
  exact List.all_eq_true.mp hz c hcl
theorem charsB_one {c : Nat} {z : Str} (hz : charsB z = true) (hc : c ∈ z.cps.toList) : charsB ⟨#[c]⟩ = true := by
  unfold charsB at *
  have h := List.all_eq_true.mp hz c hc
  show ([c] : List Nat).all _ = true
  rw [List.all_cons, h]
  rfl
theorem name_of {z : Str} (h1 : 1 ≤ z.length) (h2 : z.length ≤ 250) (hc : charsB z = true) : nameB z = true := by
  unfold nameB
  unfold charsB at hc
  rw [decide_eq_true h1, decide_eq_true h2, hc]
  rfl
theorem of_name {z : Str} (h : nameB z = true) : 1 ≤ z.length ∧ z.length ≤ 250 ∧ charsB z = true := by
  unfold nameB at h
  simp only [Bool.and_eq_true, decide_eq_true_eq] at h
  exact ⟨h.1.1, h.1.2, h.2⟩
def nmS (m : Nat) (v : V) : Prop := ∃ z : Str, v = .str z ∧ 1 ≤ z.length ∧ z.length ≤ m ∧ charsB z = true
def nmB (m : Nat) : V → Bool
  | .str z => decide (1 ≤ z.length) && decide (z.length ≤ m) && charsB z
  | _ => false
theorem nm_all {m : Nat} {xs : List V} (h : xs.all (nmB m) = true) : ∀ v ∈ xs, nmS m v := fun v hv => by
  have h1 := List.all_eq_true.mp h v hv
  cases v with
  | str z =>
    have h2 : (decide (1 ≤ z.length) && decide (z.length ≤ m) && charsB z) = true := h1
    simp only [Bool.and_eq_true, decide_eq_true_eq] at h2
    exact ⟨z, rfl, h2.1.1, h2.1.2, h2.2⟩
  | _ => cases h1
section
variable {P : Program} {w : World} {K : PySem.W.Frag} {mg : Str → Option Value} {base : Heap}
def spRName : Sp := fun vs H Q _ => ∃ (a : Addr) (n : Int), vs = [.ref a, .int n] ∧ Src H a ∧ 0 ≤ n ∧ n ≤ 300 ∧ ∀ (z : Str) H', (1 ≤ z.length ∧ (z.length : Int) ≤ 20 + n ∧ charsB z = true) → Src H' a → But a H H' → Q (.str z) H'
theorem sp_rname {a : Addr} {n : Int} {H : Hp} {Q : VK} {E : XK} (h : Src H a) (h0 : 0 ≤ n) (h1 : n ≤ 300) (k : ∀ (z : Str) H', (1 ≤ z.length ∧ (z.length : Int) ≤ 20 + n ∧ charsB z = true) → Src H' a → But a H H' → Q (.str z) H') : spRName ([.ref a, .int n] ++ []) H Q E := ⟨a, n, rfl, h, h0, h1, k⟩
theorem ok_rname {f : Addr} {fd : FuncData} {k : Nat} (F : Fun K "_law_random_name" "_law_random_name" s__law_random_name f fd) (m1 : mg "range" = none) (c_draw : CalT P w K mg base 2 "_law_draw" spDraw) :
    FnOk P w K mg base CX0 (k + 3) f fd ["_law_source_here", "_law_many"] spRName := by
  refine F.ok sc__law_random_name (fun vs H Q E h => ?_) (fun cdv A outer s H vs Q E hr h => ?_)
  · obtain ⟨a, n, rfl, _⟩ := h
    rfl
  · obtain ⟨a, n, rfl, hs, hn0, hn1, q⟩ := h
    have hu := hu_of hr
    have nd := sc__law_random_name.nd
    have one : Str.length "/" = 1 := by decide +kernel
    have oneq : Str.length "q" = 1 := by decide +kernel
    have chs : charsB "/" = true := by decide +kernel
    have chq : charsB "q" = true := by decide +kernel
    refine ⟨_, (pss_cons (ps_set (i := 2) nd rfl (Or.inl rfl) (pe_ix (ix_listK K) (pe_lst (pa_cons pe_str (pa_cons pe_str (pa_cons pe_str (pa_cons pe_str (pa_cons pe_str (pa_cons pe_str pa_nil))))))) (pe_cc c_draw hr (by omega) (by rfl) (pa_cons (pv 0) (pa_cons pe_int pa_nil))) (fun _ _ => rfl)))
      (pss_cons (ps_for PassesOwn.never rfl (pi_range1 (by rfl) (by assumption) (pa_cons (pe_ix (ix_listK K) (pe_lst (pa_cons pe_int (pa_cons pe_int (pa_cons pe_int (pa_cons pe_int pa_nil))))) (pe_cc c_draw hr (by omega) (by rfl) (pa_cons (pv 0) (pa_cons pe_int pa_nil))) (fun _ _ => rfl)) pa_nil)) (pg_name (i := 3) nd rfl (Or.inl rfl))
        (pss_one (ps_set (i := 2) nd rfl (Or.inl rfl) (pe_op op_addZ (pe_op op_addZ (pv 2) pe_str) (pe_ix (ix_listK K) (pe_lst (pa_cons pe_str (pa_cons pe_str (pa_cons pe_str (pa_cons pe_str (pa_cons pe_str (pa_cons pe_str pa_nil))))))) (pe_cc c_draw hr (by omega) (by rfl) (pa_cons (pv 0) (pa_cons pe_int pa_nil))) (fun _ _ => rfl))))))
      (pss_one (ps_ret (pe_op op_addZ (pv 2) (pe_op op_mulS pe_str (pv 1))))))), ?_⟩
    walk_at "st"
    refine r_pick (nmS 4) rfl (by decide) (by decide) (fun Q' h => ?_) ?_
    · walk_at "rd"
      exact h _ _ rfl (nm_all (by decide +kernel)) hs (.refl _ _)
    · rintro v H1 ⟨z, rfl, hz1, hz, hzc⟩ hs1 hb1
      walk_at "st"
      refine r_pick (intIn 0 2) rfl (by decide) (by decide) (fun Q' h => ?_) ?_
      · walk_at "rd"
        exact h _ _ rfl (int_all (by decide +kernel)) hs1 (.refl _ _)
      · rintro v H2 ⟨j, rfl, hj0, hj1⟩ hs2 hb2
        walk_at "rd"
        refine for_it (walk_range (lo := 0) (n := j.toNat)) (fun i σ H' => ∃ (z : Str) (v : Option V), σ = [some (.ref a), some (.int n), some (.str z), v] ∧ Src H' a ∧ But a H H' ∧ 1 ≤ z.length ∧ z.length ≤ 4 + 5 * i ∧ charsB z = true) ?_ (fun _ _ _ _ _ => True.intro) ?_ ?_
        · exact ⟨_, _, rfl, hs2, hb1.trans hb2, hz1, hz, hzc⟩
        · rintro i x σ Hc H' hi ⟨y, v, rfl, hs3, hb3, hy1, hy, hyc⟩ ⟨rfl, rfl⟩
          walk_at "st"
          iterate 5 walk_at "rd2"
          refine r_pick (nmS 4) rfl (by decide) (by decide) (fun Q' h => ?_) ?_
          · walk_at "rd"
            exact h _ _ rfl (nm_all (by decide +kernel)) hs3 (.refl _ _)
          · rintro v H4 ⟨u, rfl, hu1, hu4, huc⟩ hs4 hb4
            have e1 := len_add y "/"
            have e2 := len_add (y ++ "/") u
            walk_at "rd"
            exact ⟨_, _, rfl, hs4, hb3.trans hb4, by omega, by omega, charsB_add (charsB_add hyc chs) huc⟩
        · rintro σ Hc ⟨y, v, rfl, hs3, hb3, hy1, hy, hyc⟩
          have e1 : (repZ "q" n).length = n.toNat := by rw [repZ_len, oneq, Nat.mul_one]
          have e2 := len_add y (repZ "q" n)
          walk_at "rd"
          exact q _ _ ⟨by omega, by omega, charsB_add hyc (charsB_rep _ chq)⟩ hs3 hb3
def spAName : Sp := fun vs H Q _ => ∃ (a : Addr), vs = [.ref a] ∧ Src H a ∧ ∀ (z : Str) H', nameB z = true → Src H' a → But a H H' → Q (.str z) H'
theorem sp_aname {a : Addr} {H : Hp} {Q : VK} {E : XK} (h : Src H a) (k : ∀ (z : Str) H', nameB z = true → Src H' a → But a H H' → Q (.str z) H') : spAName ([.ref a] ++ []) H Q E := ⟨a, rfl, h, k⟩
theorem ok_aname {f : Addr} {fd : FuncData} {k : Nat} (F : Fun K "_law_any_name" "_law_any_name" s__law_any_name f fd) (m1 : mg "len" = none) (c_draw : CalT P w K mg base 2 "_law_draw" spDraw) (c_rname : CalT P w K mg base 3 "_law_random_name" spRName) :
    FnOk P w K mg base CX0 (k + 4) f fd ["_law_source_here"] spAName := by
  refine F.ok sc__law_any_name (fun vs H Q E h => ?_) (fun cdv A outer s H vs Q E hr h => ?_)
  · obtain ⟨a, rfl, _⟩ := h
    rfl
  · obtain ⟨a, rfl, hs, q⟩ := h
    have hu := hu_of hr
    have nd := sc__law_any_name.nd
    refine ⟨_, (pss_cons (ps_set (i := 1) nd rfl (Or.inl rfl) (pe_cc c_draw hr (by omega) (by rfl) (pa_cons (pv 0) (pa_cons pe_int pa_nil))))
      (pss_cons (ps_if (pt_cmpR op_lt (pv 1) pe_int (nomark _))
        (pss_one (ps_ret (pe_cc c_rname hr (by omega) (by rfl) (pa_cons (pv 0) (pa_cons pe_int pa_nil)))))
        pss_nil)
      (pss_cons (ps_if (pt_cmpR op_lt (pv 1) pe_int (nomark _))
        (pss_cons (ps_set (i := 2) nd rfl (Or.inl rfl) (pe_ix (ix_listK K) (pe_lst (pa_cons pe_int (pa_cons pe_int (pa_cons pe_int (pa_cons pe_int (pa_cons pe_int (pa_cons pe_int (pa_cons (pe_op op_add pe_int (pe_cc c_draw hr (by omega) (by rfl) (pa_cons (pv 0) (pa_cons pe_int pa_nil)))) pa_nil)))))))) (pe_cc c_draw hr (by omega) (by rfl) (pa_cons (pv 0) (pa_cons pe_int pa_nil))) (fun _ _ => rfl)))
      (pss_cons (ps_set (i := 3) nd rfl (Or.inl rfl) (pe_cc c_rname hr (by omega) (by rfl) (pa_cons (pv 0) (pa_cons pe_int pa_nil))))
      (pss_one (ps_ret (pe_op op_addZ (pv 3) (pe_op op_mulS (pe_ix ix_str pe_str (pe_cc c_draw hr (by omega) (by rfl) (pa_cons (pv 0) (pa_cons pe_int pa_nil))) (fun _ _ => rfl)) (pe_op op_sub (pv 2) (pe_callB call_rLenZ (by rfl) (by assumption) (by decide +kernel) (pa_cons (pv 3) pa_nil)))))))))
        pss_nil)
      (pss_one (ps_ret (pe_ix (ix_listK K) (pe_lst (pa_cons pe_str (pa_cons pe_str (pa_cons pe_str (pa_cons pe_str (pa_cons pe_str (pa_cons pe_str (pa_cons pe_str (pa_cons pe_str pa_nil))))))))) (pe_cc c_draw hr (by omega) (by rfl) (pa_cons (pv 0) (pa_cons pe_int pa_nil))) (fun _ _ => rfl))))))), ?_⟩
    walk_at "rd"
    refine sp_draw hs (by decide) (by decide) (fun way H1 w0 w1 hs1 hb1 => ?_)
    walk_at "rd"
    refine r_iteD (fun hw => ?_) (fun hw => ?_)
    · walk_at "rd"
      refine sp_rname hs1 (by decide) (by decide) (fun z H2 hz hs2 hb2 => ?_)
      exact q z H2 (name_of hz.1 (by omega) hz.2.2) hs2 (hb1.trans hb2)
    · walk_at "rd"
      refine r_iteD (fun hw2 => ?_) (fun hw2 => ?_)
      · walk_at "st"
        refine r_pick (intIn 99 250) rfl (by decide) (by decide) (fun Q' h => ?_) ?_
        · walk_at "rd"
          refine sp_draw hs1 (by decide) (by decide) (fun d H2 d0 d1 hs2 hb2 => ?_)
          walk_at "rd"
          refine h _ _ rfl ?_ hs2 hb2
          intro v hv
          simp only [List.mem_cons, List.not_mem_nil, or_false] at hv
          rcases hv with rfl | rfl | rfl | rfl | rfl | rfl | rfl
          all_goals exact ⟨_, rfl, by omega, by omega⟩
        · rintro v H2 ⟨size, rfl, z0, z1⟩ hs2 hb2
          walk_at "rd"
          refine sp_rname hs2 (by decide) (by decide) (fun z H3 hz hs3 hb3 => ?_)
          walk_at "st"
          iterate 3 walk_at "rd2"
          refine r_pickS rfl (by decide +kernel) (by decide) (by decide) hs3 (fun c H4 hc hs4 hb4 => ?_)
          have hcc : charsB ⟨#[c]⟩ = true := charsB_one (by decide +kernel) hc
          have onec : Str.length ⟨#[c]⟩ = 1 := rfl
          have e1 : (repZ ⟨#[c]⟩ (size - z.length)).length = (size - z.length).toNat := by rw [repZ_len, onec, Nat.mul_one]
          have e2 := len_add z (repZ ⟨#[c]⟩ (size - z.length))
          walk_at "rd"
          exact q _ H4 (name_of (by omega) (by omega) (charsB_add hz.2.2 (charsB_rep _ hcc))) hs4 (((hb1.trans hb2).trans hb3).trans hb4)
      · walk_at "st"
        refine r_pick (nmS 6) rfl (by decide) (by decide) (fun Q' h => ?_) ?_
        · walk_at "rd"
          exact h _ _ rfl (nm_all (by decide +kernel)) hs1 (.refl _ _)
        · rintro v H2 ⟨z, rfl, hz1, hz, hzc⟩ hs2 hb2
          exact q z H2 (name_of hz1 (by omega) hzc) hs2 (hb1.trans hb2)
end
end Th
namespace Th
open PySem PySem.Spec PyProof.Rows L2
local macro_rules | `(tactic| walk_at "lk") => `(tactic| first
  | assumption
  | exact upd_same
  | (refine upd_old (by assumption) ?_; walk_at "lk")
  | (refine upd_diff (by assumption) ?_; walk_at "lk")
  | (refine upd_diff (Ne.symm (by assumption)) ?_; walk_at "lk"))
local macro_rules | `(tactic| walk_at "cnd") => `(tactic| first
  | omega
  | (refine ⟨by omega, by omega⟩)
  | (refine ⟨by omega, by omega, by omega⟩)
  | (refine .inl ⟨by omega, by omega⟩)
  | (refine .inr ⟨by omega, by omega⟩)
  | (exact (show CPow _ _ from ⟨by decide, by decide, by omega⟩))
  | decide +kernel
  | (unfold CMulW; decide +kernel)
  | (exact wide_div (b := 64) (by omega) (by omega) (by decide) (by decide)))
local macro_rules | `(tactic| walk_at "rd1") => `(tactic| first
  | (with_reducible refine r_seq ?_)
  | (with_reducible refine r_asg ?_)
  | (with_reducible refine r_ret ?_)
  | (with_reducible refine r_if ?_)
  | (with_reducible refine r_gname ?_)
  | ((with_reducible refine' r_var ?hv ?_); (case hv => exact rfl))
  | (with_reducible refine r_c ?_)
  | (with_reducible refine r_op ?_)
  | (with_reducible refine r_I0 ?_)
  | ((with_reducible refine r_I ?hc ?_); (case hc => walk_at "cnd"))
  | (with_reducible refine r_test ?_)
  | (with_reducible refine r_tB ?_)
  | (with_reducible refine r_bl ?_)
  | (with_reducible refine r_not ?_)
  | (with_reducible refine r_and ?_)
  | (with_reducible refine r_or ?_)
  | (with_reducible refine r_ifE ?_)
  | (with_reducible refine r_notV ?_)
  | (with_reducible refine r_andV ?_)
  | (with_reducible refine r_orV ?_)
  | (with_reducible refine r_chain ?_)
  | (with_reducible refine r_cb ?_)
  | (with_reducible refine r_call ?_)
  | (with_reducible refine r_callN ?_)
  | (with_reducible refine r_nil ?_)
  | (with_reducible refine r_cons ?_)
  | ((with_reducible refine r_lst ?_))
  | ((with_reducible refine r_tup ?_))
  | ((with_reducible refine r_new ?_ ?_); (exact Nat.le_of_ble_eq_true rfl); (intro p hp))
  | (with_reducible refine r_rInt1 ?_)
  | (with_reducible refine r_rIntB ?_)
  | (with_reducible refine r_rAbs ?_)
  | (with_reducible refine r_rMin2 ?_)
  | (with_reducible refine r_rMax2 ?_)
  | ((with_reducible refine r_rLenZ ?hz ?_); (case hz => first | assumption | exact Nat.le_of_ble_eq_true rfl | (refine Nat.le_trans ?_ (by decide : 100000 ≤ sizeLine); omega)))
  | ((with_reducible refine r_addZ ?hz ?_); (case hz => (refine Nat.le_trans ?_ (by decide : 100000 ≤ sizeLine); first | omega | (simp only [Str.length] at *; simp; omega))))
  | ((with_reducible refine r_mulZ ?hz ?h0 ?h1 ?_); (case hz => first | omega | exact Nat.le_of_ble_eq_true rfl); (case h0 => omega); (case h1 => omega))
  | ((with_reducible refine' r_rLenQ ?h1 ?_); (case h1 => first | (exact .inl (by assumption)) | (exact .inr (by assumption)) | (exact .inl (SqL.of (by walk_at "lk"))) | (exact .inr (SqT.of (by walk_at "lk")))))
  | ((with_reducible refine r_eq ?hs ?_); (case hs => exact rfl))
  | ((with_reducible refine r_ne ?hs ?_); (case hs => exact rfl))
  | (with_reducible refine r_inC ?_)
  | ((with_reducible refine' r_cat ?h1 ?h2 ?h3 ?_); (case h1 => walk_at "lk"); (case h2 => walk_at "lk"); (case h3 => exact Nat.le_of_ble_eq_true rfl); (intro p hp))
  | ((with_reducible refine' r_rep ?h1 ?h2 ?h3 ?h4 ?_); (case h1 => walk_at "lk"); (case h2 => omega); (case h3 => omega); (case h4 => exact Nat.le_of_ble_eq_true rfl); (intro p hp))
  | ((with_reducible refine' r_append ?h1 ?h2 ?_); (case h1 => walk_at "lk"); (case h2 => first | exact (show _ + 1 ≤ sizeLine from Nat.le_of_ble_eq_true rfl) | exact Nat.lt_of_le_of_lt (by omega : _ ≤ 100000) (by decide)))
  | (with_reducible refine r_bm ?_)
  | ((with_reducible refine' r_tyL ?h1 ?_); (case h1 => walk_at "lk"))
  | ((with_reducible refine' r_ixL ?h1 ?h2 ?_); (case h1 => first | assumption | exact SqL.of (by walk_at "lk")); (case h2 => exact rfl))
  | ((with_reducible refine' r_ixT ?h1 ?h2 ?_); (case h1 => first | assumption | exact SqT.of (by walk_at "lk")); (case h2 => exact rfl))
  | (with_reducible refine r_gsub ?_)
  | ((with_reducible refine' r_setL ?h1 ?h2 ?_); (case h1 => walk_at "lk"); (case h2 => exact rfl))
  | (with_reducible refine r_un ?_)
  | (with_reducible refine r_neg ?_)
  | (with_reducible refine r_iteT ?_)
  | (with_reducible refine r_iteNT ?_)
  | (with_reducible refine r_iteNF ?_)
  | (with_reducible refine r_iteF ?_)
  | (with_reducible refine r_next ?_)
  | (with_reducible refine r_drop ?_)
  | (with_reducible refine r_cont ?_)
  | (with_reducible refine r_brk ?_))
local macro_rules | `(tactic| walk_at "ty") => `(tactic| first
  | assumption
  | exact .base (.int _)
  | exact .base (.str _)
  | exact .base (.bl _)
  | exact .base .non
  | exact .byt _
  | exact .base (.lst (by walk_at "lk"))
  | exact .base (.tup (by walk_at "lk")))
local macro_rules | `(tactic| walk_at "rd2") => `(tactic| first
  | walk_at "rd1"
  | ((with_reducible refine' r_isi true ?ht ?hk ?_); (case ht => walk_at "ty"); (case hk => first | assumption | decide +kernel))
  | ((with_reducible refine' r_isi false ?ht ?hk ?_); (case ht => walk_at "ty"); (case hk => first | assumption | decide +kernel))
  | ((with_reducible refine' r_isiT2 true true ?hT ?ht ?hk ?hk2 ?_); (case hT => walk_at "lk"); (case ht => walk_at "ty"); (case hk => decide +kernel); (case hk2 => decide +kernel))
  | ((with_reducible refine' r_isiT2 true false ?hT ?ht ?hk ?hk2 ?_); (case hT => walk_at "lk"); (case ht => walk_at "ty"); (case hk => decide +kernel); (case hk2 => decide +kernel))
  | ((with_reducible refine' r_isiT2 false true ?hT ?ht ?hk ?hk2 ?_); (case hT => walk_at "lk"); (case ht => walk_at "ty"); (case hk => decide +kernel); (case hk2 => decide +kernel))
  | ((with_reducible refine' r_isiT2 false false ?hT ?ht ?hk ?hk2 ?_); (case hT => walk_at "lk"); (case ht => walk_at "ty"); (case hk => decide +kernel); (case hk2 => decide +kernel))
  | (with_reducible refine r_iteNT ?_)
  | ((show (if (!true) = true then _ else _)); refine r_iteNT ?_)
  | (with_reducible refine r_r1 ?_)
  | (with_reducible refine r_maks ?_)
  | (with_reducible refine r_sfld ?_)
  | ((with_reducible refine' r_sfldE ?h1 ?h2 ?h3 ?h4 ?_); (case h1 => walk_at "lk"); (case h2 => assumption); (case h3 => assumption); (case h4 => exact (show _ + 1 ≤ 1000 from Nat.le_of_ble_eq_true rfl)))
  | (with_reducible refine r_fld ?_)
  | (with_reducible refine r_join ?_)
  | (with_reducible refine r_jcons ?_)
  | (with_reducible refine r_jnil ?_)
  | ((with_reducible refine r_rLenY ?hz ?_); (case hz => first | assumption | (refine Nat.le_trans ?_ (by decide : 100000 ≤ sizeLine); omega)))
  | (with_reducible refine r_par ?_)
  | (with_reducible refine r_pair ?_)
  | (with_reducible refine r_par3 ?_)
  | (with_reducible refine r_trip ?_)
  | ((with_reducible refine' r_gtup ?h1 ?h2 ?_); (case h1 => first | assumption | exact SqT.of (by walk_at "lk")); (case h2 => exact rfl))
  | (with_reducible refine r_gcons ?_)
  | (with_reducible refine r_gnil ?_)
  | ((with_reducible refine' r_slL ?h1 ?_); (case h1 => first | assumption | exact SqL.of (by walk_at "lk")); (intro p hp))
  | (with_reducible refine r_iTup ?_)
  | ((with_reducible refine' r_tupE ?h1 ?_); (case h1 => first | assumption | exact SqT.of (by walk_at "lk")))
  | (with_reducible refine r_m1 ?_)
  | (with_reducible refine r_isZ ?_)
  | (with_reducible refine r_sl ?_)
  | (with_reducible refine r_noPart ?_)
  | (with_reducible refine r_part ?_)
  | (with_reducible refine r_partE ?_)
  | ((with_reducible refine r_slS ?hz ?_); (case hz => first | assumption | (refine Nat.le_trans ?_ (by decide : 100000 ≤ sizeLine); omega)))
  | ((with_reducible refine' r_inT ?h1 ?h2 ?h3 ?_); (case h1 => first | assumption | (exact SqT.of (by walk_at "lk"))); (case h2 => exact rfl); (case h3 => exact rfl))
  | ((with_reducible refine' r_inL ?h1 ?h2 ?h3 ?_); (case h1 => first | assumption | (exact SqL.of (by walk_at "lk"))); (case h2 => exact rfl); (case h3 => exact rfl))
  | (with_reducible refine r_lc ?_)
  | (with_reducible refine r_for ?_)
  | (with_reducible refine r_iStr ?_)
  | (with_reducible refine r_strE ?_)
  | (with_reducible refine r_iList ?_)
  | ((with_reducible refine' r_listE ?h1 ?_); (case h1 => first | assumption | exact SqL.of (by walk_at "lk")))
  | (with_reducible refine r_iRng1 ?_)
  | ((with_reducible refine' r_rngE ?h0 ?h1 ?_); (case h0 => first | omega | (split <;> omega)); (case h1 => first | omega | (split <;> omega))))
local macro_rules | `(tactic| walk_at "rd") => `(tactic| (repeat walk_at "rd2"))
local macro_rules | `(tactic| walk_at "st") => `(tactic| (repeat (first
  | (with_reducible refine r_gname ?_)
  | (with_reducible refine r_next ?_)
  | (with_reducible refine r_seq ?_)
  | (with_reducible refine r_asg ?_)
  | (with_reducible refine r_ret ?_)
  | (with_reducible refine r_for ?_)
  | (with_reducible refine r_iRng1 ?_)
  | (with_reducible refine r_iList ?_)
  | (with_reducible refine r_cons ?_)
  | (with_reducible refine r_par ?_)
  | (with_reducible refine r_par3 ?_))))
theorem rep_map {α β : Type} (f : α → β) (k : Nat) (l : List α) : (List.replicate k (l.map f)).flatten = ((List.replicate k l).flatten).map f := by
  rw [List.map_flatten, List.map_replicate]
theorem rep_all {l : List Int} {p : Int → Bool} (k : Nat) (h : l.all p = true) : ((List.replicate k l).flatten).all p = true := by
  rw [List.all_eq_true]
  intro c hc
  obtain ⟨m, hm, hcm⟩ := List.mem_flatten.mp hc
  rw [List.eq_of_mem_replicate hm] at hcm
  exact List.all_eq_true.mp h c hcm
theorem rep_len {l : List Int} (k : Nat) : ((List.replicate k l).flatten).length = k * l.length := by
  rw [List.length_flatten]; simp
theorem inB {i : Int} (h0 : 0 ≤ i) (h1 : i < 256) : inByte i = true := by
  unfold inByte
  rw [decide_eq_true h0, decide_eq_true (by omega : i ≤ 255)]
  rfl
theorem cut_take (xs : List Int) (n : Int) (h : 0 ≤ n) : cutV (xs.map V.int) none (some n) = (xs.take n.toNat).map V.int := by
  obtain ⟨k, rfl⟩ : ∃ k : Nat, n = (k : Int) := ⟨n.toNat, by omega⟩
  unfold cutV
  rw [HT.sIx_none, HT.sIx_nat, List.drop_zero, Nat.sub_zero, List.length_map, Int.toNat_natCast, List.map_take]
  rcases Nat.le_total k xs.length with h | h
  · rw [Nat.min_eq_left h]
  · rw [Nat.min_eq_right h, List.take_of_length_le (by rw [List.length_map]; exact Nat.le_refl _), List.take_of_length_le (by rw [List.length_map]; exact h)]
section
variable {P : Program} {w : World} {K : PySem.W.Frag} {mg : Str → Option Value} {base : Heap}
def spRNum : Sp := fun vs H Q _ => ∃ (a : Addr) (n : Int), vs = [.ref a, .int n] ∧ Src H a ∧ 0 ≤ n ∧ n ≤ 5000 ∧ ∀ p (ns : List Int) H', H p = none → H' p = some (.lst (ns.map V.int)) → (ns.length : Int) = n → ns.all inByte = true → Src H' a → But a H H' → Q (.ref p) H'
theorem sp_rnum {a : Addr} {n : Int} {H : Hp} {Q : VK} {E : XK} (h : Src H a) (h0 : 0 ≤ n) (h1 : n ≤ 5000) (k : ∀ p (ns : List Int) H', H p = none → H' p = some (.lst (ns.map V.int)) → (ns.length : Int) = n → ns.all inByte = true → Src H' a → But a H H' → Q (.ref p) H') : spRNum ([.ref a, .int n] ++ []) H Q E := ⟨a, n, rfl, h, h0, h1, k⟩
theorem But.back {a p : Addr} {H H' : Hp} (hs : Src H a) (hs' : Src H' a) (b : But a H H') (hp : H' p = none) : H p = none := by
  cases q : H p with
  | none => rfl
  | some o =>
    by_cases e : p = a
    · obtain ⟨l, m, c, h1, _⟩ := hs'
      rw [e, h1] at hp
      cases hp
    · rw [b p o e q] at hp
      cases hp
theorem ok_rnum {f : Addr} {fd : FuncData} {k : Nat} (F : Fun K "_law_random_numbers" "_law_random_numbers" s__law_random_numbers f fd) (m1 : mg "range" = none) (m2 : mg "int" = none) (c_draw : CalT P w K mg base 2 "_law_draw" spDraw) :
    FnOk P w K mg base CX0 (k + 3) f fd ["_law_source_here", "_law_many"] spRNum := by
  refine F.ok sc__law_random_numbers (fun vs H Q E h => ?_) (fun cdv A outer s H vs Q E hr h => ?_)
  · obtain ⟨a, n, rfl, _⟩ := h
    rfl
  · obtain ⟨a, n, rfl, hs, hn0, hn1, q⟩ := h
    have hu := hu_of hr
    have nd := sc__law_random_numbers.nd
    refine ⟨_, (pss_cons (ps_asg (pe_tup (pa_cons (pe_cc c_draw hr (by omega) (by rfl) (pa_cons (pv 0) (pa_cons pe_int pa_nil))) (pa_cons (pe_cc c_draw hr (by omega) (by rfl) (pa_cons (pv 0) (pa_cons pe_int pa_nil))) (pa_cons (pe_cc c_draw hr (by omega) (by rfl) (pa_cons (pv 0) (pa_cons pe_int pa_nil))) pa_nil)))) (pg_tupK K (pg_tup rfl (pgs_cons (pg_name (i := 2) nd rfl (Or.inr rfl)) (pgs_cons (pg_name (i := 3) nd rfl (Or.inr rfl)) (pgs_cons (pg_name (i := 4) nd rfl (Or.inl rfl)) pgs_nil))))))
      (pss_cons (ps_if (pt_cmpR op_eq (pv 4) pe_int (nomark _))
        (pss_one (ps_ret (pe_op op_rep (pe_lst (pa_cons pe_int pa_nil)) (pv 1))))
        pss_nil)
      (pss_cons (ps_if (pt_cmpR op_eq (pv 4) pe_int (nomark _))
        (pss_one (ps_ret (pe_lc (own := [("_law_k", 5)]) (g := (gName 5)) (tt := tYes) rfl nd (pi_range1 (by rfl) (by assumption) (pa_cons (pv 1) pa_nil)) (blkOk_by (N := N__law_random_numbers) (sc := defScope s__law_random_numbers) (by decide +kernel)) (fun _ _ _ _ _ => (pg_name (i := 5) nd rfl (Or.inl rfl))) (fun _ _ _ _ _ => pts_nil) (fun _ _ _ _ _ => (pe_op op_mod (pe_callTy call_rInt1 (by rfl) (by assumption) (by decide +kernel) (pa_cons (pe_op op_add (pv 2) (pe_op op_mul (pv 3) (pv 5))) pa_nil)) pe_int)))))
        pss_nil)
      (pss_one (ps_ret (pe_slice (sl_listK K) (pe_op op_rep (pe_lst (pa_cons pe_int (pa_cons (pv 2) (pa_cons pe_int (pa_cons pe_int (pa_cons (pv 3) (pa_cons pe_int (pa_cons pe_int pa_nil)))))))) (pe_op op_add (pe_op op_fdivW (pv 1) pe_int) pe_int)) po_none (po_some (pv 1)))))))), ?_⟩
    walk_at "rd"
    refine sp_draw hs (by decide) (by decide) (fun x H1 x0 x1 hs1 hb1 => ?_)
    walk_at "rd"
    refine sp_draw hs1 (by decide) (by decide) (fun y H2 y0 y1 hs2 hb2 => ?_)
    walk_at "rd"
    refine sp_draw hs2 (by decide) (by decide) (fun z H3 z0 z1 hs3 hb3 => ?_)
    walk_at "rd"
    rename_i tp htp
    have hb : But a H H3 := (hb1.trans hb2).trans hb3
    have b0 : inByte 0 = true := by decide
    have bx : inByte x = true := inB x0 x1
    have by_ : inByte y = true := inB y0 y1
    have line : (100000 : Nat) ≤ sizeLine := by decide
    refine r_iteD (fun hz => ?_) (fun hz => ?_)
    · walk_at "rd"
      rename_i p hp
      refine r_rep upd_same (by omega) (by omega) (Nat.le_trans (by show 1 * n.toNat ≤ 100000; omega) line) (fun p2 hp2 => ?_)
      have e : (List.replicate n.toNat [V.int 0]).flatten = ((List.replicate n.toNat [(0 : Int)]).flatten).map V.int := rep_map V.int n.toNat [(0 : Int)]
      have sb := ((same_new (o := HO.tup [V.int x, V.int y, V.int z]) htp).trans (same_new (o := HO.lst [V.int 0]) hp)).trans (same_new (o := HO.lst (List.replicate n.toNat [V.int 0]).flatten) hp2)
      have hs' := hs3.same sb
      have hb' := hb.trans (Same.but sb)
      refine q p2 _ _ (But.back hs hs3 hb (((same_new htp).trans (same_new hp)).free hp2)) (by rw [upd_same, e]) ?_ (rep_all _ (by decide)) hs' hb'
      rw [rep_len]
      simp
      omega
    · walk_at "rd"
      refine r_iteD (fun hz1 => ?_) (fun hz1 => ?_)
      · walk_at "rd"
        intro D hD
        refine lc_map (cs := List.range n.toNat) (enc := fun (i : Nat) => V.int (i : Int)) (f := fun (i : Nat) => V.int ((x + y * (i : Int)) % 256)) walk_rangeN hD (by rw [List.length_range]; exact Nat.lt_of_lt_of_le (by omega : n.toNat < 100000) line) (fun _ _ => True.intro) (fun _ => rfl) ?_ ?_
        · intro c hc H' e Q' k'
          walk_at "rd"
          exact k' _ (Same.refl _)
        · intro H' e hl
          have e2 : (List.range n.toNat).map (fun (i : Nat) => V.int ((x + y * (i : Int)) % 256)) = ((List.range n.toNat).map fun (i : Nat) => (x + y * (i : Int)) % 256).map V.int := by rw [List.map_map]; rfl
          rw [e2] at hl
          have sb := (same_new (o := HO.tup [V.int x, V.int y, V.int z]) htp).trans e
          refine q D _ _ (But.back hs hs3 hb ((same_new htp).free hD)) hl (by rw [List.length_map, List.length_range]; omega) ?_ (hs3.same sb) (hb.trans (Same.but sb))
          rw [List.all_eq_true]
          intro c hc
          obtain ⟨i, _, rfl⟩ := List.mem_map.mp hc
          exact inB (Int.emod_nonneg _ (by decide)) (Int.emod_lt_of_pos _ (by decide))
      · walk_at "rd"
        rename_i p hp
        have hd0 : 0 ≤ n / 7 := Int.ediv_nonneg hn0 (by decide)
        have hd1 : n / 7 ≤ 5000 := by omega
        refine r_rep upd_same (by omega) (by omega) (Nat.le_trans (by show 7 * (n / 7 + 1).toNat ≤ 100000; omega) line) (fun p2 hp2 => ?_)
        walk_at "rd"
        rename_i p3 hp3
        have e : (List.replicate (n / 7 + 1).toNat [V.int 0, V.int x, V.int 1, V.int 255, V.int y, V.int 0, V.int 0]).flatten = ((List.replicate (n / 7 + 1).toNat [0, x, 1, 255, y, 0, 0]).flatten).map V.int := rep_map V.int _ [0, x, 1, 255, y, 0, 0]
        have sb := (((same_new (o := HO.tup [V.int x, V.int y, V.int z]) htp).trans (same_new (o := HO.lst [V.int 0, V.int x, V.int 1, V.int 255, V.int y, V.int 0, V.int 0]) hp)).trans (same_new (o := HO.lst (List.replicate (n / 7 + 1).toNat [V.int 0, V.int x, V.int 1, V.int 255, V.int y, V.int 0, V.int 0]).flatten) hp2)).trans (same_new (o := HO.lst (cutV (List.replicate (n / 7 + 1).toNat [V.int 0, V.int x, V.int 1, V.int 255, V.int y, V.int 0, V.int 0]).flatten none (some n))) hp3)
        have lenR : ((List.replicate (n / 7 + 1).toNat [0, x, 1, 255, y, 0, 0]).flatten).length = (n / 7 + 1).toNat * 7 := rep_len _
        refine q p3 (((List.replicate (n / 7 + 1).toNat [0, x, 1, 255, y, 0, 0]).flatten).take n.toNat) _ (But.back hs hs3 hb ((((same_new htp).trans (same_new hp)).trans (same_new hp2)).free hp3)) (by rw [upd_same, e, cut_take _ _ hn0]) (by rw [List.length_take, lenR]; omega) ?_ (hs3.same sb) (hb.trans (Same.but sb))
        rw [List.all_eq_true]
        intro c hc
        refine List.all_eq_true.mp (rep_all (p := inByte) _ ?_) c (List.mem_of_mem_take hc)
        simp only [List.all_cons, List.all_nil, b0, bx, by_]
        decide
end
end Th
namespace Th
open PySem PySem.Spec PyProof.Rows L2
local macro_rules | `(tactic| walk_at "lk") => `(tactic| first
  | assumption
  | exact upd_same
  | (refine upd_old (by assumption) ?_; walk_at "lk")
  | (refine upd_diff (by assumption) ?_; walk_at "lk")
  | (refine upd_diff (Ne.symm (by assumption)) ?_; walk_at "lk"))
local macro_rules | `(tactic| walk_at "cnd") => `(tactic| first
  | omega
  | (refine ⟨by omega, by omega⟩)
  | (refine ⟨by omega, by omega, by omega⟩)
  | (refine .inl ⟨by omega, by omega⟩)
  | (refine .inr ⟨by omega, by omega⟩)
  | (exact (show CPow _ _ from ⟨by decide, by decide, by omega⟩))
  | decide +kernel
  | (unfold CMulW; decide +kernel)
  | (exact wide_div (b := 64) (by omega) (by omega) (by decide) (by decide)))
local macro_rules | `(tactic| walk_at "rd1") => `(tactic| first
  | (with_reducible refine r_seq ?_)
  | (with_reducible refine r_asg ?_)
  | (with_reducible refine r_ret ?_)
  | (with_reducible refine r_if ?_)
  | (with_reducible refine r_gname ?_)
  | ((with_reducible refine' r_var ?hv ?_); (case hv => exact rfl))
  | (with_reducible refine r_c ?_)
  | (with_reducible refine r_op ?_)
  | (with_reducible refine r_I0 ?_)
  | ((with_reducible refine r_I ?hc ?_); (case hc => walk_at "cnd"))
  | (with_reducible refine r_test ?_)
  | (with_reducible refine r_tB ?_)
  | (with_reducible refine r_bl ?_)
  | (with_reducible refine r_not ?_)
  | (with_reducible refine r_and ?_)
  | (with_reducible refine r_or ?_)
  | (with_reducible refine r_ifE ?_)
  | (with_reducible refine r_notV ?_)
  | (with_reducible refine r_andV ?_)
  | (with_reducible refine r_orV ?_)
  | (with_reducible refine r_chain ?_)
  | (with_reducible refine r_cb ?_)
  | (with_reducible refine r_call ?_)
  | (with_reducible refine r_callN ?_)
  | (with_reducible refine r_nil ?_)
  | (with_reducible refine r_cons ?_)
  | ((with_reducible refine r_lst ?_))
  | ((with_reducible refine r_tup ?_))
  | ((with_reducible refine r_new ?_ ?_); (exact Nat.le_of_ble_eq_true rfl); (intro p hp))
  | (with_reducible refine r_rInt1 ?_)
  | (with_reducible refine r_rIntB ?_)
  | (with_reducible refine r_rAbs ?_)
  | (with_reducible refine r_rMin2 ?_)
  | (with_reducible refine r_rMax2 ?_)
  | ((with_reducible refine r_rLenZ ?hz ?_); (case hz => first | assumption | exact Nat.le_of_ble_eq_true rfl | (refine Nat.le_trans ?_ (by decide : 100000 ≤ sizeLine); omega)))
  | ((with_reducible refine r_addZ ?hz ?_); (case hz => (refine Nat.le_trans ?_ (by decide : 100000 ≤ sizeLine); first | omega | (simp only [Str.length] at *; simp; omega))))
  | ((with_reducible refine r_mulZ ?hz ?h0 ?h1 ?_); (case hz => first | omega | exact Nat.le_of_ble_eq_true rfl); (case h0 => omega); (case h1 => omega))
  | ((with_reducible refine' r_rLenQ ?h1 ?_); (case h1 => first | (exact .inl (by assumption)) | (exact .inr (by assumption)) | (exact .inl (SqL.of (by walk_at "lk"))) | (exact .inr (SqT.of (by walk_at "lk")))))
  | ((with_reducible refine r_eq ?hs ?_); (case hs => exact rfl))
  | ((with_reducible refine r_ne ?hs ?_); (case hs => exact rfl))
  | (with_reducible refine r_inC ?_)
  | ((with_reducible refine' r_cat ?h1 ?h2 ?h3 ?_); (case h1 => walk_at "lk"); (case h2 => walk_at "lk"); (case h3 => exact Nat.le_of_ble_eq_true rfl); (intro p hp))
  | ((with_reducible refine' r_rep ?h1 ?h2 ?h3 ?h4 ?_); (case h1 => walk_at "lk"); (case h2 => omega); (case h3 => omega); (case h4 => exact Nat.le_of_ble_eq_true rfl); (intro p hp))
  | ((with_reducible refine' r_append ?h1 ?h2 ?_); (case h1 => walk_at "lk"); (case h2 => first | exact (show _ + 1 ≤ sizeLine from Nat.le_of_ble_eq_true rfl) | exact Nat.lt_of_le_of_lt (by omega : _ ≤ 100000) (by decide)))
  | (with_reducible refine r_bm ?_)
  | ((with_reducible refine' r_tyL ?h1 ?_); (case h1 => walk_at "lk"))
  | ((with_reducible refine' r_ixL ?h1 ?h2 ?_); (case h1 => first | assumption | exact SqL.of (by walk_at "lk")); (case h2 => exact rfl))
  | ((with_reducible refine' r_ixT ?h1 ?h2 ?_); (case h1 => first | assumption | exact SqT.of (by walk_at "lk")); (case h2 => exact rfl))
  | (with_reducible refine r_gsub ?_)
  | ((with_reducible refine' r_setL ?h1 ?h2 ?_); (case h1 => walk_at "lk"); (case h2 => exact rfl))
  | (with_reducible refine r_un ?_)
  | (with_reducible refine r_neg ?_)
  | (with_reducible refine r_iteT ?_)
  | (with_reducible refine r_iteNT ?_)
  | (with_reducible refine r_iteNF ?_)
  | (with_reducible refine r_iteF ?_)
  | (with_reducible refine r_next ?_)
  | (with_reducible refine r_drop ?_)
  | (with_reducible refine r_cont ?_)
  | (with_reducible refine r_brk ?_))
local macro_rules | `(tactic| walk_at "ty") => `(tactic| first
  | assumption
  | exact .base (.int _)
  | exact .base (.str _)
  | exact .base (.bl _)
  | exact .base .non
  | exact .byt _
  | exact .base (.lst (by walk_at "lk"))
  | exact .base (.tup (by walk_at "lk")))
local macro_rules | `(tactic| walk_at "rd2") => `(tactic| first
  | walk_at "rd1"
  | ((with_reducible refine' r_isi true ?ht ?hk ?_); (case ht => walk_at "ty"); (case hk => first | assumption | decide +kernel))
  | ((with_reducible refine' r_isi false ?ht ?hk ?_); (case ht => walk_at "ty"); (case hk => first | assumption | decide +kernel))
  | ((with_reducible refine' r_isiT2 true true ?hT ?ht ?hk ?hk2 ?_); (case hT => walk_at "lk"); (case ht => walk_at "ty"); (case hk => decide +kernel); (case hk2 => decide +kernel))
  | ((with_reducible refine' r_isiT2 true false ?hT ?ht ?hk ?hk2 ?_); (case hT => walk_at "lk"); (case ht => walk_at "ty"); (case hk => decide +kernel); (case hk2 => decide +kernel))
  | ((with_reducible refine' r_isiT2 false true ?hT ?ht ?hk ?hk2 ?_); (case hT => walk_at "lk"); (case ht => walk_at "ty"); (case hk => decide +kernel); (case hk2 => decide +kernel))
  | ((with_reducible refine' r_isiT2 false false ?hT ?ht ?hk ?hk2 ?_); (case hT => walk_at "lk"); (case ht => walk_at "ty"); (case hk => decide +kernel); (case hk2 => decide +kernel))
  | (with_reducible refine r_iteNT ?_)
  | ((show (if (!true) = true then _ else _)); refine r_iteNT ?_)
  | (with_reducible refine r_r1 ?_)
  | (with_reducible refine r_maks ?_)
  | (with_reducible refine r_sfld ?_)
  | ((with_reducible refine' r_sfldE ?h1 ?h2 ?h3 ?h4 ?_); (case h1 => walk_at "lk"); (case h2 => assumption); (case h3 => assumption); (case h4 => exact (show _ + 1 ≤ 1000 from Nat.le_of_ble_eq_true rfl)))
  | (with_reducible refine r_fld ?_)
  | (with_reducible refine r_join ?_)
  | (with_reducible refine r_jcons ?_)
  | (with_reducible refine r_jnil ?_)
  | ((with_reducible refine r_rLenY ?hz ?_); (case hz => first | assumption | (refine Nat.le_trans ?_ (by decide : 100000 ≤ sizeLine); omega)))
  | (with_reducible refine r_par ?_)
  | (with_reducible refine r_pair ?_)
  | (with_reducible refine r_par3 ?_)
  | (with_reducible refine r_trip ?_)
  | ((with_reducible refine' r_gtup ?h1 ?h2 ?_); (case h1 => first | assumption | exact SqT.of (by walk_at "lk")); (case h2 => exact rfl))
  | (with_reducible refine r_gcons ?_)
  | (with_reducible refine r_gnil ?_)
  | ((with_reducible refine' r_slL ?h1 ?_); (case h1 => first | assumption | exact SqL.of (by walk_at "lk")); (intro p hp))
  | (with_reducible refine r_iTup ?_)
  | ((with_reducible refine' r_tupE ?h1 ?_); (case h1 => first | assumption | exact SqT.of (by walk_at "lk")))
  | (with_reducible refine r_m1 ?_)
  | (with_reducible refine r_isZ ?_)
  | (with_reducible refine r_sl ?_)
  | (with_reducible refine r_noPart ?_)
  | (with_reducible refine r_part ?_)
  | (with_reducible refine r_partE ?_)
  | ((with_reducible refine r_slS ?hz ?_); (case hz => first | assumption | (refine Nat.le_trans ?_ (by decide : 100000 ≤ sizeLine); omega)))
  | ((with_reducible refine' r_inT ?h1 ?h2 ?h3 ?_); (case h1 => first | assumption | (exact SqT.of (by walk_at "lk"))); (case h2 => exact rfl); (case h3 => exact rfl))
  | ((with_reducible refine' r_inL ?h1 ?h2 ?h3 ?_); (case h1 => first | assumption | (exact SqL.of (by walk_at "lk"))); (case h2 => exact rfl); (case h3 => exact rfl))
  | (with_reducible refine r_lc ?_)
  | (with_reducible refine r_for ?_)
  | (with_reducible refine r_iStr ?_)
  | (with_reducible refine r_strE ?_)
  | (with_reducible refine r_iList ?_)
  | ((with_reducible refine' r_listE ?h1 ?_); (case h1 => first | assumption | exact SqL.of (by walk_at "lk")))
  | (with_reducible refine r_iRng1 ?_)
  | ((with_reducible refine' r_rngE ?h0 ?h1 ?_); (case h0 => first | omega | (split <;> omega)); (case h1 => first | omega | (split <;> omega))))
local macro_rules | `(tactic| walk_at "rd") => `(tactic| (repeat walk_at "rd2"))
local macro_rules | `(tactic| walk_at "st") => `(tactic| (repeat (first
  | (with_reducible refine r_gname ?_)
  | (with_reducible refine r_next ?_)
  | (with_reducible refine r_seq ?_)
  | (with_reducible refine r_asg ?_)
  | (with_reducible refine r_ret ?_)
  | (with_reducible refine r_for ?_)
  | (with_reducible refine r_iRng1 ?_)
  | (with_reducible refine r_iList ?_)
  | (with_reducible refine r_cons ?_)
  | (with_reducible refine r_par ?_)
  | (with_reducible refine r_par3 ?_))))
section
variable {P : Program} {w : World} {K : PySem.W.Frag} {mg : Str → Option Value} {base : Heap}
def spRSize : Sp := fun vs H Q _ => ∃ (a : Addr), vs = [.ref a] ∧ Src H a ∧ ∀ (n : Int) H', 0 ≤ n → n ≤ 1300 → Src H' a → But a H H' → Q (.int n) H'
theorem sp_rsize {a : Addr} {H : Hp} {Q : VK} {E : XK} (h : Src H a) (k : ∀ (n : Int) H', 0 ≤ n → n ≤ 1300 → Src H' a → But a H H' → Q (.int n) H') : spRSize ([.ref a] ++ []) H Q E := ⟨a, rfl, h, k⟩
theorem ok_rsize {f : Addr} {fd : FuncData} {k : Nat} (F : Fun K "_law_random_size" "_law_random_size" s__law_random_size f fd) (c_draw : CalT P w K mg base 2 "_law_draw" spDraw) :
    FnOk P w K mg base CX0 (k + 3) f fd ["_law_source_here"] spRSize := by
  refine F.ok sc__law_random_size (fun vs H Q E h => ?_) (fun cdv A outer s H vs Q E hr h => ?_)
  · obtain ⟨a, rfl, _⟩ := h
    rfl
  · obtain ⟨a, rfl, hs, q⟩ := h
    have hu := hu_of hr
    have nd := sc__law_random_size.nd
    refine ⟨_, (pss_one (ps_ret (pe_ix (ix_listK K) (pe_lst (pa_cons pe_int (pa_cons pe_int (pa_cons pe_int (pa_cons pe_int (pa_cons pe_int (pa_cons pe_int (pa_cons pe_int (pa_cons (pe_cc c_draw hr (by omega) (by rfl) (pa_cons (pv 0) (pa_cons pe_int pa_nil))) pa_nil))))))))) (pe_cc c_draw hr (by omega) (by rfl) (pa_cons (pv 0) (pa_cons pe_int pa_nil))) (fun _ _ => rfl)))), ?_⟩
    walk_at "st"
    refine r_pick (intIn 0 1300) rfl (by decide) (by decide) (fun Q' h => ?_) ?_
    · walk_at "rd"
      refine sp_draw hs (by decide) (by decide) (fun d H2 d0 d1 hs2 hb2 => ?_)
      walk_at "rd"
      refine h _ _ rfl ?_ hs2 hb2
      intro v hv
      simp only [List.mem_cons, List.not_mem_nil, or_false] at hv
      rcases hv with rfl | rfl | rfl | rfl | rfl | rfl | rfl | rfl
      all_goals exact ⟨_, rfl, by omega, by omega⟩
    · rintro v H2 ⟨n, rfl, z0, z1⟩ hs2 hb2
      exact q n H2 z0 z1 hs2 hb2
def spStamps : Sp := fun vs H Q _ => ∃ (a : Addr), vs = [.ref a] ∧ Src H a ∧ ∀ p (b t : Int) H', H p = none → H' p = some (.tup [.int b, .int t]) → 0 ≤ b → b ≤ 4095 → 0 ≤ t → t ≤ 8589934591 → Src H' a → But a H H' → Q (.ref p) H'
theorem sp_stamps {a : Addr} {H : Hp} {Q : VK} {E : XK} (h : Src H a) (k : ∀ p (b t : Int) H', H p = none → H' p = some (.tup [.int b, .int t]) → 0 ≤ b → b ≤ 4095 → 0 ≤ t → t ≤ 8589934591 → Src H' a → But a H H' → Q (.ref p) H') : spStamps ([.ref a] ++ []) H Q E := ⟨a, rfl, h, k⟩
theorem ok_stamps {f : Addr} {fd : FuncData} {k : Nat} (F : Fun K "_law_stamps" "_law_stamps" s__law_stamps f fd) (c_draw : CalT P w K mg base 2 "_law_draw" spDraw) :
    FnOk P w K mg base CX0 (k + 3) f fd ["_law_source_here"] spStamps := by
  refine F.ok sc__law_stamps (fun vs H Q E h => ?_) (fun cdv A outer s H vs Q E hr h => ?_)
  · obtain ⟨a, rfl, _⟩ := h
    rfl
  · obtain ⟨a, rfl, hs, q⟩ := h
    have hu := hu_of hr
    have nd := sc__law_stamps.nd
    refine ⟨_, (pss_cons (ps_set (i := 1) nd rfl (Or.inl rfl) (pe_ix (ix_listK K) (pe_lst (pa_cons pe_int (pa_cons pe_int (pa_cons pe_int (pa_cons pe_int (pa_cons (pe_cc c_draw hr (by omega) (by rfl) (pa_cons (pv 0) (pa_cons pe_int pa_nil))) pa_nil)))))) (pe_cc c_draw hr (by omega) (by rfl) (pa_cons (pv 0) (pa_cons pe_int pa_nil))) (fun _ _ => rfl)))
      (pss_one (ps_ret (pe_tup (pa_cons (pv 1) (pa_cons (pe_ix (ix_listK K) (pe_lst (pa_cons pe_int (pa_cons pe_int (pa_cons pe_int (pa_cons pe_int (pa_cons (pe_cc c_draw hr (by omega) (by rfl) (pa_cons (pv 0) (pa_cons pe_int pa_nil))) pa_nil)))))) (pe_cc c_draw hr (by omega) (by rfl) (pa_cons (pv 0) (pa_cons pe_int pa_nil))) (fun _ _ => rfl)) pa_nil)))))), ?_⟩
    walk_at "st"
    refine r_pick (intIn 0 4095) rfl (by decide) (by decide) (fun Q' h => ?_) ?_
    · walk_at "rd"
      refine sp_draw hs (by decide) (by decide) (fun d H2 d0 d1 hs2 hb2 => ?_)
      walk_at "rd"
      refine h _ _ rfl ?_ hs2 hb2
      intro v hv
      simp only [List.mem_cons, List.not_mem_nil, or_false] at hv
      rcases hv with rfl | rfl | rfl | rfl | rfl
      all_goals exact ⟨_, rfl, by omega, by omega⟩
    · rintro v H2 ⟨b, rfl, z0, z1⟩ hs2 hb2
      walk_at "st"
      iterate 3 walk_at "rd2"
      refine r_pick (intIn 0 8589934591) rfl (by decide) (by decide) (fun Q' h => ?_) ?_
      · walk_at "rd"
        refine sp_draw hs2 (by decide) (by decide) (fun d H3 d0 d1 hs3 hb3 => ?_)
        walk_at "rd"
        refine h _ _ rfl ?_ hs3 hb3
        intro v hv
        simp only [List.mem_cons, List.not_mem_nil, or_false] at hv
        rcases hv with rfl | rfl | rfl | rfl | rfl
        all_goals exact ⟨_, rfl, by omega, by omega⟩
      · rintro v H3 ⟨t, rfl, t0, t1⟩ hs3 hb3
        walk_at "rd"
        rename_i p hp
        have hb : But a H H3 := hb2.trans hb3
        exact q p b t _ (But.back hs hs3 hb hp) upd_same z0 z1 t0 t1 (hs3.new hp) (hb.trans (Same.but (same_new hp)))
end
/-! ### spans: pairs of an offset and a length -/
def SpanL (H : Hp) (L : Addr) (sp : List (Int × Int)) : Prop := ∃ as : List Addr, H L = some (.lst (as.map V.ref)) ∧ Paired (fun q (s : Int × Int) => H q = some (.tup [.int s.1, .int s.2])) as sp
def spansOk (size : Int) : Int → List (Int × Int) → Prop
  | _, [] => True
  | e, (b, n) :: r => e ≤ b ∧ 1 ≤ n ∧ b + n ≤ size ∧ spansOk size (b + n + 1) r
def endOf : Int → List (Int × Int) → Int
  | e, [] => e
  | _, (b, n) :: r => endOf (b + n + 1) r
theorem spansOk_snoc {size : Int} : ∀ {e : Int} {sp : List (Int × Int)} {b n : Int}, spansOk size e sp → endOf e sp ≤ b → 1 ≤ n → b + n ≤ size → spansOk size e (sp ++ [(b, n)])
  | e, [], b, n, _, h1, h2, h3 => ⟨h1, h2, h3, True.intro⟩
  | e, (c, m) :: r, b, n, h, h1, h2, h3 => ⟨h.1, h.2.1, h.2.2.1, spansOk_snoc h.2.2.2 h1 h2 h3⟩
theorem endOf_snoc : ∀ {e : Int} {sp : List (Int × Int)} {b n : Int}, endOf e (sp ++ [(b, n)]) = b + n + 1
  | e, [], b, n => rfl
  | e, (c, m) :: r, b, n => endOf_snoc (e := c + m + 1) (sp := r)
theorem endOf_nonneg {size : Int} : ∀ {e : Int} {sp : List (Int × Int)}, 0 ≤ e → spansOk size e sp → 0 ≤ endOf e sp
  | e, [], h, _ => h
  | e, (b, n) :: r, h, k => endOf_nonneg (e := b + n + 1) (sp := r) (by have := k.1; have := k.2.1; omega) k.2.2.2
theorem SpanL.same {H H' : Hp} {L : Addr} {sp : List (Int × Int)} (e : Same H H') (h : SpanL H L sp) : SpanL H' L sp := by
  obtain ⟨as, h1, h2⟩ := h
  exact ⟨as, e _ _ h1, Paired.mapP h2 fun q s z => e _ _ z⟩
theorem SpanL.but {H H' : Hp} {L a : Addr} {sp : List (Int × Int)} (hs : Src H a) (e : But a H H') (h : SpanL H L sp) : SpanL H' L sp := by
  obtain ⟨as, h1, h2⟩ := h
  obtain ⟨l, m, c, ha, _⟩ := hs
  refine ⟨as, e _ _ ?_ h1, Paired.mapP h2 fun q s z => e _ _ ?_ z⟩
  · intro x
    rw [x, ha] at h1
    cases as with
    | nil => simp at h1
    | cons y ys => simp at h1
  · intro x
    rw [x, ha] at z
    cases z
theorem paired_snoc {α β : Type} {R : α → β → Prop} : ∀ {xs : List α} {ys : List β} {x : α} {y : β}, Paired R xs ys → R x y → Paired R (xs ++ [x]) (ys ++ [y])
  | _, _, _, _, .nil, h => .cons h .nil
  | _, _, _, _, .cons r t, h => .cons r (paired_snoc t h)
end Th
namespace Th
open PySem PySem.Spec PyProof.Rows L2
local macro_rules | `(tactic| walk_at "lk") => `(tactic| first
  | assumption
  | exact upd_same
  | (refine upd_old (by assumption) ?_; walk_at "lk")
  | (refine upd_diff (by assumption) ?_; walk_at "lk")
  | (refine upd_diff (Ne.symm (by assumption)) ?_; walk_at "lk"))
local macro_rules | `(tactic| walk_at "cnd") => `(tactic| first
  | omega
  | (refine ⟨by omega, by omega⟩)
  | (refine ⟨by omega, by omega, by omega⟩)
  | (refine .inl ⟨by omega, by omega⟩)
  | (refine .inr ⟨by omega, by omega⟩)
  | (exact (show CPow _ _ from ⟨by decide, by decide, by omega⟩))
  | decide +kernel
  | (unfold CMulW; decide +kernel)
  | (exact wide_div (b := 64) (by omega) (by omega) (by decide) (by decide)))
local macro_rules | `(tactic| walk_at "rd1") => `(tactic| first
  | (with_reducible refine r_seq ?_)
  | (with_reducible refine r_asg ?_)
  | (with_reducible refine r_ret ?_)
  | (with_reducible refine r_if ?_)
  | (with_reducible refine r_gname ?_)
  | ((with_reducible refine' r_var ?hv ?_); (case hv => exact rfl))
  | (with_reducible refine r_c ?_)
  | (with_reducible refine r_op ?_)
  | (with_reducible refine r_I0 ?_)
  | ((with_reducible refine r_I ?hc ?_); (case hc => walk_at "cnd"))
  | (with_reducible refine r_test ?_)
  | (with_reducible refine r_tB ?_)
  | (with_reducible refine r_bl ?_)
  | (with_reducible refine r_not ?_)
  | (with_reducible refine r_and ?_)
  | (with_reducible refine r_or ?_)
  | (with_reducible refine r_ifE ?_)
  | (with_reducible refine r_notV ?_)
  | (with_reducible refine r_andV ?_)
  | (with_reducible refine r_orV ?_)
  | (with_reducible refine r_chain ?_)
  | (with_reducible refine r_cb ?_)
  | (with_reducible refine r_call ?_)
  | (with_reducible refine r_callN ?_)
  | (with_reducible refine r_nil ?_)
  | (with_reducible refine r_cons ?_)
  | ((with_reducible refine r_lst ?_))
  | ((with_reducible refine r_tup ?_))
  | ((with_reducible refine r_new ?_ ?_); (exact Nat.le_of_ble_eq_true rfl); (intro p hp))
  | (with_reducible refine r_rInt1 ?_)
  | (with_reducible refine r_rIntB ?_)
  | (with_reducible refine r_rAbs ?_)
  | (with_reducible refine r_rMin2 ?_)
  | (with_reducible refine r_rMax2 ?_)
  | ((with_reducible refine r_rLenZ ?hz ?_); (case hz => first | assumption | exact Nat.le_of_ble_eq_true rfl | (refine Nat.le_trans ?_ (by decide : 100000 ≤ sizeLine); omega)))
  | ((with_reducible refine r_addZ ?hz ?_); (case hz => (refine Nat.le_trans ?_ (by decide : 100000 ≤ sizeLine); first | omega | (simp only [Str.length] at *; simp; omega))))
  | ((with_reducible refine r_mulZ ?hz ?h0 ?h1 ?_); (case hz => first | omega | exact Nat.le_of_ble_eq_true rfl); (case h0 => omega); (case h1 => omega))
  | ((with_reducible refine' r_rLenQ ?h1 ?_); (case h1 => first | (exact .inl (by assumption)) | (exact .inr (by assumption)) | (exact .inl (SqL.of (by walk_at "lk"))) | (exact .inr (SqT.of (by walk_at "lk")))))
  | ((with_reducible refine r_eq ?hs ?_); (case hs => exact rfl))
  | ((with_reducible refine r_ne ?hs ?_); (case hs => exact rfl))
  | (with_reducible refine r_inC ?_)
  | ((with_reducible refine' r_cat ?h1 ?h2 ?h3 ?_); (case h1 => walk_at "lk"); (case h2 => walk_at "lk"); (case h3 => exact Nat.le_of_ble_eq_true rfl); (intro p hp))
  | ((with_reducible refine' r_rep ?h1 ?h2 ?h3 ?h4 ?_); (case h1 => walk_at "lk"); (case h2 => omega); (case h3 => omega); (case h4 => exact Nat.le_of_ble_eq_true rfl); (intro p hp))
  | ((with_reducible refine' r_append ?h1 ?h2 ?_); (case h1 => walk_at "lk"); (case h2 => first | exact (show _ + 1 ≤ sizeLine from Nat.le_of_ble_eq_true rfl) | exact Nat.lt_of_le_of_lt (by omega : _ ≤ 100000) (by decide)))
  | (with_reducible refine r_bm ?_)
  | ((with_reducible refine' r_tyL ?h1 ?_); (case h1 => walk_at "lk"))
  | ((with_reducible refine' r_ixL ?h1 ?h2 ?_); (case h1 => first | assumption | exact SqL.of (by walk_at "lk")); (case h2 => exact rfl))
  | ((with_reducible refine' r_ixT ?h1 ?h2 ?_); (case h1 => first | assumption | exact SqT.of (by walk_at "lk")); (case h2 => exact rfl))
  | (with_reducible refine r_gsub ?_)
  | ((with_reducible refine' r_setL ?h1 ?h2 ?_); (case h1 => walk_at "lk"); (case h2 => exact rfl))
  | (with_reducible refine r_un ?_)
  | (with_reducible refine r_neg ?_)
  | (with_reducible refine r_iteT ?_)
  | (with_reducible refine r_iteNT ?_)
  | (with_reducible refine r_iteNF ?_)
  | (with_reducible refine r_iteF ?_)
  | (with_reducible refine r_next ?_)
  | (with_reducible refine r_drop ?_)
  | (with_reducible refine r_cont ?_)
  | (with_reducible refine r_brk ?_))
local macro_rules | `(tactic| walk_at "ty") => `(tactic| first
  | assumption
  | exact .base (.int _)
  | exact .base (.str _)
  | exact .base (.bl _)
  | exact .base .non
  | exact .byt _
  | exact .base (.lst (by walk_at "lk"))
  | exact .base (.tup (by walk_at "lk")))
local macro_rules | `(tactic| walk_at "rd2") => `(tactic| first
  | walk_at "rd1"
  | ((with_reducible refine' r_isi true ?ht ?hk ?_); (case ht => walk_at "ty"); (case hk => first | assumption | decide +kernel))
  | ((with_reducible refine' r_isi false ?ht ?hk ?_); (case ht => walk_at "ty"); (case hk => first | assumption | decide +kernel))
  | ((with_reducible refine' r_isiT2 true true ?hT ?ht ?hk ?hk2 ?_); (case hT => walk_at "lk"); (case ht => walk_at "ty"); (case hk => decide +kernel); (case hk2 => decide +kernel))
  | ((with_reducible refine' r_isiT2 true false ?hT ?ht ?hk ?hk2 ?_); (case hT => walk_at "lk"); (case ht => walk_at "ty"); (case hk => decide +kernel); (case hk2 => decide +kernel))
  | ((with_reducible refine' r_isiT2 false true ?hT ?ht ?hk ?hk2 ?_); (case hT => walk_at "lk"); (case ht => walk_at "ty"); (case hk => decide +kernel); (case hk2 => decide +kernel))
  | ((with_reducible refine' r_isiT2 false false ?hT ?ht ?hk ?hk2 ?_); (case hT => walk_at "lk"); (case ht => walk_at "ty"); (case hk => decide +kernel); (case hk2 => decide +kernel))
  | (with_reducible refine r_iteNT ?_)
  | ((show (if (!true) = true then _ else _)); refine r_iteNT ?_)
  | (with_reducible refine r_r1 ?_)
  | (with_reducible refine r_maks ?_)
  | (with_reducible refine r_sfld ?_)
  | ((with_reducible refine' r_sfldE ?h1 ?h2 ?h3 ?h4 ?_); (case h1 => walk_at "lk"); (case h2 => assumption); (case h3 => assumption); (case h4 => exact (show _ + 1 ≤ 1000 from Nat.le_of_ble_eq_true rfl)))
  | (with_reducible refine r_fld ?_)
  | (with_reducible refine r_join ?_)
  | (with_reducible refine r_jcons ?_)
  | (with_reducible refine r_jnil ?_)
  | ((with_reducible refine r_rLenY ?hz ?_); (case hz => first | assumption | (refine Nat.le_trans ?_ (by decide : 100000 ≤ sizeLine); omega)))
  | (with_reducible refine r_par ?_)
  | (with_reducible refine r_pair ?_)
  | (with_reducible refine r_par3 ?_)
  | (with_reducible refine r_trip ?_)
  | ((with_reducible refine' r_gtup ?h1 ?h2 ?_); (case h1 => first | assumption | exact SqT.of (by walk_at "lk")); (case h2 => exact rfl))
  | (with_reducible refine r_gcons ?_)
  | (with_reducible refine r_gnil ?_)
  | ((with_reducible refine' r_slL ?h1 ?_); (case h1 => first | assumption | exact SqL.of (by walk_at "lk")); (intro p hp))
  | (with_reducible refine r_iTup ?_)
  | ((with_reducible refine' r_tupE ?h1 ?_); (case h1 => first | assumption | exact SqT.of (by walk_at "lk")))
  | (with_reducible refine r_m1 ?_)
  | (with_reducible refine r_isZ ?_)
  | (with_reducible refine r_sl ?_)
  | (with_reducible refine r_noPart ?_)
  | (with_reducible refine r_part ?_)
  | (with_reducible refine r_partE ?_)
  | ((with_reducible refine r_slS ?hz ?_); (case hz => first | assumption | (refine Nat.le_trans ?_ (by decide : 100000 ≤ sizeLine); omega)))
  | ((with_reducible refine' r_inT ?h1 ?h2 ?h3 ?_); (case h1 => first | assumption | (exact SqT.of (by walk_at "lk"))); (case h2 => exact rfl); (case h3 => exact rfl))
  | ((with_reducible refine' r_inL ?h1 ?h2 ?h3 ?_); (case h1 => first | assumption | (exact SqL.of (by walk_at "lk"))); (case h2 => exact rfl); (case h3 => exact rfl))
  | (with_reducible refine r_lc ?_)
  | (with_reducible refine r_for ?_)
  | (with_reducible refine r_iStr ?_)
  | (with_reducible refine r_strE ?_)
  | (with_reducible refine r_iList ?_)
  | ((with_reducible refine' r_listE ?h1 ?_); (case h1 => first | assumption | exact SqL.of (by walk_at "lk")))
  | (with_reducible refine r_iRng1 ?_)
  | ((with_reducible refine' r_rngE ?h0 ?h1 ?_); (case h0 => first | omega | (split <;> omega)); (case h1 => first | omega | (split <;> omega))))
local macro_rules | `(tactic| walk_at "rd") => `(tactic| (repeat walk_at "rd2"))
local macro_rules | `(tactic| walk_at "st") => `(tactic| (repeat (first
  | (with_reducible refine r_gname ?_)
  | (with_reducible refine r_next ?_)
  | (with_reducible refine r_seq ?_)
  | (with_reducible refine r_asg ?_)
  | (with_reducible refine r_ret ?_)
  | (with_reducible refine r_for ?_)
  | (with_reducible refine r_iRng1 ?_)
  | (with_reducible refine r_iList ?_)
  | (with_reducible refine r_cons ?_)
  | (with_reducible refine r_par ?_)
  | (with_reducible refine r_par3 ?_))))
section
variable {P : Program} {w : World} {K : PySem.W.Frag} {mg : Str → Option Value} {base : Heap}
def spSpans : Sp := fun vs H Q _ => ∃ (a : Addr) (z : Int), vs = [.ref a, .int z] ∧ Src H a ∧ ∀ L (sp : List (Int × Int)) H', H L = none → SpanL H' L sp → sp.length ≤ 6 → spansOk z 0 sp → Src H' a → But a H H' → Q (.ref L) H'
theorem sp_spans {a : Addr} {z : Int} {H : Hp} {Q : VK} {E : XK} (h : Src H a) (k : ∀ L (sp : List (Int × Int)) H', H L = none → SpanL H' L sp → sp.length ≤ 6 → spansOk z 0 sp → Src H' a → But a H H' → Q (.ref L) H') : spSpans ([.ref a, .int z] ++ []) H Q E := ⟨a, z, rfl, h, k⟩
theorem ok_spans {f : Addr} {fd : FuncData} {k : Nat} (F : Fun K "_law_random_spans" "_law_random_spans" s__law_random_spans f fd) (m1 : mg "len" = none) (c_draw : CalT P w K mg base 2 "_law_draw" spDraw) :
    FnOk P w K mg base CX0 (k + 3) f fd ["_law_source_here", "_law_size"] spSpans := by
  refine F.ok sc__law_random_spans (fun vs H Q E h => ?_) (fun cdv A outer s H vs Q E hr h => ?_)
  · obtain ⟨a, z, rfl, _⟩ := h
    rfl
  · obtain ⟨a, z, rfl, hs, q⟩ := h
    have hu := hu_of hr
    have nd := sc__law_random_spans.nd
    refine ⟨_, (pss_cons (ps_par (i := 2) (j := 3) rfl nd rfl rfl (by decide) rfl rfl (pa_cons (pe_lst pa_nil) (pa_cons pe_int pa_nil)) (by rfl))
      (pss_cons (ps_while PassesOwn.never (pt_cmpR op_lt (pe_callB (call_lenK K) (by rfl) (by assumption) (by decide +kernel) (pa_cons (pv 2) pa_nil)) pe_int (nomark _))
        (pss_cons (ps_set (i := 4) nd rfl (Or.inl rfl) (pe_op op_add (pv 3) (pe_cc c_draw hr (by omega) (by rfl) (pa_cons (pv 0) (pa_cons (pe_ix (ix_listK K) (pe_lst (pa_cons pe_int (pa_cons pe_int pa_nil))) (pe_cc c_draw hr (by omega) (by rfl) (pa_cons (pv 0) (pa_cons pe_int pa_nil))) (fun _ _ => rfl)) pa_nil)))))
      (pss_cons (ps_set (i := 5) nd rfl (Or.inl rfl) (pe_op op_add pe_int (pe_cc c_draw hr (by omega) (by rfl) (pa_cons (pv 0) (pa_cons (pe_ix (ix_listK K) (pe_lst (pa_cons pe_int (pa_cons pe_int pa_nil))) (pe_cc c_draw hr (by omega) (by rfl) (pa_cons (pv 0) (pa_cons pe_int pa_nil))) (fun _ _ => rfl)) pa_nil)))))
      (pss_cons (ps_if (PW.pt (pw_or (pt_cmpR op_gt (pe_op op_add (pv 4) (pv 5)) (pv 1) (nomark _)) (pw_or1 (pt_cmpR op_eq (pe_cc c_draw hr (by omega) (by rfl) (pa_cons (pv 0) (pa_cons pe_int pa_nil))) pe_int (nomark _)))))
        (pss_one (ps_ret (pv 2)))
        pss_nil)
      (pss_cons (ps_expr (pe_bm PySem.F.plainAttrs_list PySem.F.slot_list_append PySem.F.type_list_append mt_append (pv 2) (pa_cons (pe_tup (pa_cons (pv 4) (pa_cons (pv 5) pa_nil))) pa_nil)))
      (pss_one (ps_set (i := 3) nd rfl (Or.inl rfl) (pe_op op_add (pe_op op_add (pv 4) (pv 5)) pe_int))))))))
      (pss_one (ps_ret (pv 2))))), ?_⟩
    walk_at "rd"
    rename_i L hL
    refine r_while (fun m σ H' => ∃ (sp : List (Int × Int)) (e : Int) (v4 v5 : Option V), σ = [some (.ref a), some (.int z), some (.ref L), some (.int e), v4, v5] ∧ m + sp.length = 6 ∧ e = endOf 0 sp ∧ spansOk z 0 sp ∧ SpanL H' L sp ∧ Src H' a ∧ But a H H') 6 ?_ ?_ ?_
    · exact ⟨[], 0, _, _, rfl, rfl, rfl, True.intro, ⟨[], upd_same, .nil⟩, hs.new hL, Same.but (same_new hL)⟩
    · rintro m σ H' ⟨sp, e, v4, v5, rfl, hm, rfl, hok, hsp, hs1, hb1⟩ N hN
      obtain ⟨as, hl, hpd⟩ := id hsp
      have hlen : (as.map V.ref).length = sp.length := by rw [List.length_map]; exact hpd.length
      walk_at "rd"
      rw [hlen]
      refine r_iteD (fun h6 => ?_) (fun h6 => ?_)
      · walk_at "st"
        iterate 6 walk_at "rd2"
        refine r_pick (intIn 4 200) rfl (by decide) (by decide) (fun Q' h => ?_) ?_
        · walk_at "rd"
          exact h _ _ rfl (int_all (by decide)) hs1 (.refl _ _)
        rintro v H2 ⟨n1, rfl, n10, n11⟩ hs2 hb2
        walk_at "rd"
        refine sp_draw hs2 (by omega) (by omega) (fun d H3 d0 d1 hs3 hb3 => ?_)
        walk_at "rd2"
        walk_at "st"
        iterate 6 walk_at "rd2"
        refine r_pick (intIn 5 300) rfl (by decide) (by decide) (fun Q' h => ?_) ?_
        · walk_at "rd"
          exact h _ _ rfl (int_all (by decide)) hs3 (.refl _ _)
        rintro v H4 ⟨n2, rfl, n20, n21⟩ hs4 hb4
        walk_at "rd"
        refine sp_draw hs4 (by omega) (by omega) (fun g H5 g0 g1 hs5 hb5 => ?_)
        have hb15 := ((hb2.trans hb3).trans hb4).trans hb5
        have hsp5 := hsp.but hs1 hb15
        walk_at "rd"
        refine r_iteD (fun h7 => ?_) (fun h7 => ?_)
        · walk_at "rd"
          exact q L sp H5 hL hsp5 (by omega) hok hs5 (hb1.trans hb15)
        · walk_at "rd"
          refine sp_draw hs5 (by decide) (by decide) (fun t H6 t0 t1 hs6 hb6 => ?_)
          have hsp6 := hsp5.but hs5 hb6
          have hb16 := hb1.trans (hb15.trans hb6)
          walk_at "rd"
          refine r_iteD (fun h8 => ?_) (fun h8 => ?_)
          · walk_at "rd"
            exact q L sp H6 hL hsp6 (by omega) hok hs6 hb16
          · obtain ⟨as6, hl6, hpd6⟩ := id hsp6
            walk_at "rd"
            rename_i T hT
            have nTL : T ≠ L := (ne_of_none hl6 hT).symm
            have hlen6 : (as6.map V.ref).length ≤ 6 := by rw [List.length_map, hpd6.length]; omega
            refine r_append (upd_old hT hl6) (Nat.lt_of_le_of_lt hlen6 (by decide)) ?_
            walk_at "rd"
            have h0 := endOf_nonneg (Int.le_refl 0) hok
            refine hN (m - 1) _ _ (by omega) ⟨sp ++ [(endOf 0 sp + d, 1 + g)], _, _, _, rfl, by rw [List.length_append, List.length_singleton]; omega, ?_, spansOk_snoc hok (by omega) (by omega) (by omega), ?_, ?_, ?_⟩
            · exact endOf_snoc.symm
            · refine ⟨as6 ++ [T], by rw [upd_same, List.map_append]; rfl, paired_snoc (Paired.mapP hpd6 fun x s hx => ?_) ?_⟩
              · have nxL : x ≠ L := ne_of hx hl6 (by intro z; cases z)
                rw [upd_ne nxL, upd_ne (ne_of_none hx hT)]
                exact hx
              · rw [upd_ne nTL, upd_same]
            · obtain ⟨l, m', c, ha, r⟩ := hs6
              have naL : a ≠ L := by
                intro x
                rw [x, hl6] at ha
                cases as6 with
                | nil => simp at ha
                | cons y ys => simp at ha
              exact ⟨l, m', c, by rw [upd_ne naL, upd_ne (ne_of_none ha hT)]; exact ha, r⟩
            · intro b o nb e
              have e6 := hb16 b o nb e
              have nbL : b ≠ L := ne_of_none e hL
              rw [upd_ne nbL, upd_ne (ne_of_none e6 hT)]
              exact e6
      · walk_at "rd"
        exact q L sp H' hL hsp (by omega) hok hs1 hb1
    · rintro σ H Q Q' h ⟨v, e, p, ys, e2, hp, i, j, e3, e4, k, e5, q⟩
      exact ⟨v, e, p, ys, e2, hp, i, j, e3, e4, k, e5, h _ _ q⟩
end
end Th
namespace Th
open PySem PySem.Spec PyProof.Rows L2
local macro_rules | `(tactic| walk_at "lk") => `(tactic| first
  | assumption
  | exact upd_same
  | (refine upd_old (by assumption) ?_; walk_at "lk")
  | (refine upd_diff (by assumption) ?_; walk_at "lk")
  | (refine upd_diff (Ne.symm (by assumption)) ?_; walk_at "lk"))
local macro_rules | `(tactic| walk_at "cnd") => `(tactic| first
  | omega
  | (refine ⟨by omega, by omega⟩)
  | (refine ⟨by omega, by omega, by omega⟩)
  | (refine .inl ⟨by omega, by omega⟩)
  | (refine .inr ⟨by omega, by omega⟩)
  | (exact (show CPow _ _ from ⟨by decide, by decide, by omega⟩))
  | decide +kernel
  | (unfold CMulW; decide +kernel)
  | (exact wide_div (b := 64) (by omega) (by omega) (by decide) (by decide)))
local macro_rules | `(tactic| walk_at "rd1") => `(tactic| first
  | (with_reducible refine r_seq ?_)
  | (with_reducible refine r_asg ?_)
  | (with_reducible refine r_ret ?_)
  | (with_reducible refine r_if ?_)
  | (with_reducible refine r_gname ?_)
  | ((with_reducible refine' r_var ?hv ?_); (case hv => exact rfl))
  | (with_reducible refine r_c ?_)
  | (with_reducible refine r_op ?_)
  | (with_reducible refine r_I0 ?_)
  | ((with_reducible refine r_I ?hc ?_); (case hc => walk_at "cnd"))
  | (with_reducible refine r_test ?_)
  | (with_reducible refine r_tB ?_)
  | (with_reducible refine r_bl ?_)
  | (with_reducible refine r_not ?_)
  | (with_reducible refine r_and ?_)
  | (with_reducible refine r_or ?_)
  | (with_reducible refine r_ifE ?_)
  | (with_reducible refine r_notV ?_)
  | (with_reducible refine r_andV ?_)
  | (with_reducible refine r_orV ?_)
  | (with_reducible refine r_chain ?_)
  | (with_reducible refine r_cb ?_)
  | (with_reducible refine r_call ?_)
  | (with_reducible refine r_callN ?_)
  | (with_reducible refine r_nil ?_)
  | (with_reducible refine r_cons ?_)
  | ((with_reducible refine r_lst ?_))
  | ((with_reducible refine r_tup ?_))
  | ((with_reducible refine r_new ?_ ?_); (exact Nat.le_of_ble_eq_true rfl); (intro p hp))
  | (with_reducible refine r_rInt1 ?_)
  | (with_reducible refine r_rIntB ?_)
  | (with_reducible refine r_rAbs ?_)
  | (with_reducible refine r_rMin2 ?_)
  | (with_reducible refine r_rMax2 ?_)
  | ((with_reducible refine r_rLenZ ?hz ?_); (case hz => first | assumption | exact Nat.le_of_ble_eq_true rfl | (refine Nat.le_trans ?_ (by decide : 100000 ≤ sizeLine); omega)))
  | ((with_reducible refine r_addZ ?hz ?_); (case hz => (refine Nat.le_trans ?_ (by decide : 100000 ≤ sizeLine); first | omega | (simp only [Str.length] at *; simp; omega))))
  | ((with_reducible refine r_mulZ ?hz ?h0 ?h1 ?_); (case hz => first | omega | exact Nat.le_of_ble_eq_true rfl); (case h0 => omega); (case h1 => omega))
  | ((with_reducible refine' r_rLenQ ?h1 ?_); (case h1 => first | (exact .inl (by assumption)) | (exact .inr (by assumption)) | (exact .inl (SqL.of (by walk_at "lk"))) | (exact .inr (SqT.of (by walk_at "lk")))))
  | ((with_reducible refine r_eq ?hs ?_); (case hs => exact rfl))
  | ((with_reducible refine r_ne ?hs ?_); (case hs => exact rfl))
  | (with_reducible refine r_inC ?_)
  | ((with_reducible refine' r_cat ?h1 ?h2 ?h3 ?_); (case h1 => walk_at "lk"); (case h2 => walk_at "lk"); (case h3 => exact Nat.le_of_ble_eq_true rfl); (intro p hp))
  | ((with_reducible refine' r_rep ?h1 ?h2 ?h3 ?h4 ?_); (case h1 => walk_at "lk"); (case h2 => omega); (case h3 => omega); (case h4 => exact Nat.le_of_ble_eq_true rfl); (intro p hp))
  | ((with_reducible refine' r_append ?h1 ?h2 ?_); (case h1 => walk_at "lk"); (case h2 => first | exact (show _ + 1 ≤ sizeLine from Nat.le_of_ble_eq_true rfl) | exact Nat.lt_of_le_of_lt (by omega : _ ≤ 100000) (by decide)))
  | (with_reducible refine r_bm ?_)
  | ((with_reducible refine' r_tyL ?h1 ?_); (case h1 => walk_at "lk"))
  | ((with_reducible refine' r_ixL ?h1 ?h2 ?_); (case h1 => first | assumption | exact SqL.of (by walk_at "lk")); (case h2 => exact rfl))
  | ((with_reducible refine' r_ixT ?h1 ?h2 ?_); (case h1 => first | assumption | exact SqT.of (by walk_at "lk")); (case h2 => exact rfl))
  | (with_reducible refine r_gsub ?_)
  | ((with_reducible refine' r_setL ?h1 ?h2 ?_); (case h1 => walk_at "lk"); (case h2 => exact rfl))
  | (with_reducible refine r_un ?_)
  | (with_reducible refine r_neg ?_)
  | (with_reducible refine r_iteT ?_)
  | (with_reducible refine r_iteNT ?_)
  | (with_reducible refine r_iteNF ?_)
  | (with_reducible refine r_iteF ?_)
  | (with_reducible refine r_next ?_)
  | (with_reducible refine r_drop ?_)
  | (with_reducible refine r_cont ?_)
  | (with_reducible refine r_brk ?_))
local macro_rules | `(tactic| walk_at "ty") => `(tactic| first
  | assumption
  | exact .base (.int _)
  | exact .base (.str _)
  | exact .base (.bl _)
  | exact .base .non
  | exact .byt _
  | exact .base (.lst (by walk_at "lk"))
  | exact .base (.tup (by walk_at "lk")))
local macro_rules | `(tactic| walk_at "rd2") => `(tactic| first
  | walk_at "rd1"
  | ((with_reducible refine' r_isi true ?ht ?hk ?_); (case ht => walk_at "ty"); (case hk => first | assumption | decide +kernel))
  | ((with_reducible refine' r_isi false ?ht ?hk ?_); (case ht => walk_at "ty"); (case hk => first | assumption | decide +kernel))
  | ((with_reducible refine' r_isiT2 true true ?hT ?ht ?hk ?hk2 ?_); (case hT => walk_at "lk"); (case ht => walk_at "ty"); (case hk => decide +kernel); (case hk2 => decide +kernel))
  | ((with_reducible refine' r_isiT2 true false ?hT ?ht ?hk ?hk2 ?_); (case hT => walk_at "lk"); (case ht => walk_at "ty"); (case hk => decide +kernel); (case hk2 => decide +kernel))
  | ((with_reducible refine' r_isiT2 false true ?hT ?ht ?hk ?hk2 ?_); (case hT => walk_at "lk"); (case ht => walk_at "ty"); (case hk => decide +kernel); (case hk2 => decide +kernel))
  | ((with_reducible refine' r_isiT2 false false ?hT ?ht ?hk ?hk2 ?_); (case hT => walk_at "lk"); (case ht => walk_at "ty"); (case hk => decide +kernel); (case hk2 => decide +kernel))
  | (with_reducible refine r_iteNT ?_)
  | ((show (if (!true) = true then _ else _)); refine r_iteNT ?_)
  | (with_reducible refine r_r1 ?_)
  | (with_reducible refine r_maks ?_)
  | (with_reducible refine r_sfld ?_)
  | ((with_reducible refine' r_sfldE ?h1 ?h2 ?h3 ?h4 ?_); (case h1 => walk_at "lk"); (case h2 => assumption); (case h3 => assumption); (case h4 => exact (show _ + 1 ≤ 1000 from Nat.le_of_ble_eq_true rfl)))
  | (with_reducible refine r_fld ?_)
  | (with_reducible refine r_join ?_)
  | (with_reducible refine r_jcons ?_)
  | (with_reducible refine r_jnil ?_)
  | ((with_reducible refine r_rLenY ?hz ?_); (case hz => first | assumption | (refine Nat.le_trans ?_ (by decide : 100000 ≤ sizeLine); omega)))
  | (with_reducible refine r_par ?_)
  | (with_reducible refine r_pair ?_)
  | (with_reducible refine r_par3 ?_)
  | (with_reducible refine r_trip ?_)
  | ((with_reducible refine' r_gtup ?h1 ?h2 ?_); (case h1 => first | assumption | exact SqT.of (by walk_at "lk")); (case h2 => exact rfl))
  | (with_reducible refine r_gcons ?_)
  | (with_reducible refine r_gnil ?_)
  | ((with_reducible refine' r_slL ?h1 ?_); (case h1 => first | assumption | exact SqL.of (by walk_at "lk")); (intro p hp))
  | (with_reducible refine r_iTup ?_)
  | ((with_reducible refine' r_tupE ?h1 ?_); (case h1 => first | assumption | exact SqT.of (by walk_at "lk")))
  | (with_reducible refine r_m1 ?_)
  | (with_reducible refine r_isZ ?_)
  | (with_reducible refine r_sl ?_)
  | (with_reducible refine r_noPart ?_)
  | (with_reducible refine r_part ?_)
  | (with_reducible refine r_partE ?_)
  | ((with_reducible refine r_slS ?hz ?_); (case hz => first | assumption | (refine Nat.le_trans ?_ (by decide : 100000 ≤ sizeLine); omega)))
  | ((with_reducible refine' r_inT ?h1 ?h2 ?h3 ?_); (case h1 => first | assumption | (exact SqT.of (by walk_at "lk"))); (case h2 => exact rfl); (case h3 => exact rfl))
  | ((with_reducible refine' r_inL ?h1 ?h2 ?h3 ?_); (case h1 => first | assumption | (exact SqL.of (by walk_at "lk"))); (case h2 => exact rfl); (case h3 => exact rfl))
  | (with_reducible refine r_lc ?_)
  | (with_reducible refine r_for ?_)
  | (with_reducible refine r_iStr ?_)
  | (with_reducible refine r_strE ?_)
  | (with_reducible refine r_iList ?_)
  | ((with_reducible refine' r_listE ?h1 ?_); (case h1 => first | assumption | exact SqL.of (by walk_at "lk")))
  | (with_reducible refine r_iRng1 ?_)
  | ((with_reducible refine' r_rngE ?h0 ?h1 ?_); (case h0 => first | omega | (split <;> omega)); (case h1 => first | omega | (split <;> omega))))
local macro_rules | `(tactic| walk_at "rd") => `(tactic| (repeat walk_at "rd2"))
local macro_rules | `(tactic| walk_at "st") => `(tactic| (repeat (first
  | (with_reducible refine r_gname ?_)
  | (with_reducible refine r_next ?_)
  | (with_reducible refine r_seq ?_)
  | (with_reducible refine r_asg ?_)
  | (with_reducible refine r_ret ?_)
  | (with_reducible refine r_for ?_)
  | (with_reducible refine r_iRng1 ?_)
  | (with_reducible refine r_iList ?_)
  | (with_reducible refine r_cons ?_)
  | (with_reducible refine r_par ?_)
  | (with_reducible refine r_par3 ?_))))
/-! ### a drawn member, as data -/
inductive Mem where
  | file (n : Str) (b t : Int) (ns : List Int)
  | sparse (n : Str) (b t z : Int) (sp : List (Int × List Int))
  | dir (n : Str) (b t : Int)
  | sym (n : Str) (b t : Int) (g : Str)
  | lnk (n : Str) (b t : Int) (g : Str)
  deriving DecidableEq
def PiecesL (H : Hp) (d : Addr) (sp : List (Int × List Int)) : Prop := ∃ as : List Addr, H d = some (.lst (as.map V.ref)) ∧ Paired (fun q (s : Int × List Int) => ∃ e, H q = some (.tup [.int s.1, .ref e]) ∧ H e = some (.lst (s.2.map V.int))) as sp
theorem PiecesL.same {H H' : Hp} {d : Addr} {sp : List (Int × List Int)} (e : Same H H') (h : PiecesL H d sp) : PiecesL H' d sp := by
  obtain ⟨as, h1, h2⟩ := h
  exact ⟨as, e _ _ h1, Paired.mapP h2 fun q s ⟨x, z1, z2⟩ => ⟨x, e _ _ z1, e _ _ z2⟩⟩
def Mem.At (H : Hp) (p : Addr) : Mem → Prop
  | .file n b t ns => ∃ d, H p = some (.lst [.str "file", .str n, .int b, .int t, .ref d]) ∧ H d = some (.lst (ns.map V.int))
  | .sparse n b t z sp => ∃ d, H p = some (.lst [.str "sparse", .str n, .int b, .int t, .int z, .ref d]) ∧ PiecesL H d sp
  | .dir n b t => H p = some (.lst [.str "directory", .str n, .int b, .int t])
  | .sym n b t g => H p = some (.lst [.str "symlink", .str n, .int b, .int t, .str g])
  | .lnk n b t g => H p = some (.lst [.str "link", .str n, .int b, .int t, .str g])
theorem Mem.At.same {H H' : Hp} {p : Addr} {m : Mem} (e : Same H H') (h : m.At H p) : m.At H' p := by
  cases m with
  | file n b t ns => obtain ⟨d, h1, h2⟩ := h; exact ⟨d, e _ _ h1, e _ _ h2⟩
  | sparse n b t z sp => obtain ⟨d, h1, h2⟩ := h; exact ⟨d, e _ _ h1, h2.same e⟩
  | dir n b t => exact e _ _ h
  | sym n b t g => exact e _ _ h
  | lnk n b t g => exact e _ _ h
def Mem.AtB (a : Addr) (H : Hp) (p : Addr) (m : Mem) : Prop := ∀ H', But a H H' → m.At H' p
theorem Mem.AtB.at {a : Addr} {H : Hp} {p : Addr} {m : Mem} (h : m.AtB a H p) : m.At H p := h H fun _ _ _ e => e
theorem Mem.AtB.but {a : Addr} {H H' : Hp} {p : Addr} {m : Mem} (b : But a H H') (h : m.AtB a H p) : m.AtB a H' p := fun H2 b2 => h H2 (b.trans b2)
theorem Mem.AtB.same {a : Addr} {H H' : Hp} {p : Addr} {m : Mem} (e : Same H H') (h : m.AtB a H p) : m.AtB a H' p := h.but (Same.but e)
theorem atB_file {a : Addr} {H : Hp} {p d : Addr} {n : Str} {b t : Int} {ns : List Int} (n1 : p ≠ a) (n2 : d ≠ a) (h1 : H p = some (.lst [.str "file", .str n, .int b, .int t, .ref d])) (h2 : H d = some (.lst (ns.map V.int))) : (Mem.file n b t ns).AtB a H p :=
  fun H' y => ⟨d, y _ _ n1 h1, y _ _ n2 h2⟩
theorem atB_sparse {a : Addr} {H : Hp} {p d : Addr} {n : Str} {b t z : Int} {sp : List (Int × List Int)} {as : List Addr} (n1 : p ≠ a) (n2 : d ≠ a) (h1 : H p = some (.lst [.str "sparse", .str n, .int b, .int t, .int z, .ref d])) (h2 : H d = some (.lst (as.map V.ref)))
    (h3 : Paired (fun q (s : Int × List Int) => q ≠ a ∧ ∃ e, e ≠ a ∧ H q = some (.tup [.int s.1, .ref e]) ∧ H e = some (.lst (s.2.map V.int))) as sp) : (Mem.sparse n b t z sp).AtB a H p :=
  fun H' y => ⟨d, y _ _ n1 h1, as, y _ _ n2 h2, Paired.mapP h3 fun q s ⟨k1, e, k2, g1, g2⟩ => ⟨e, y _ _ k1 g1, y _ _ k2 g2⟩⟩
theorem atB_dir {a : Addr} {H : Hp} {p : Addr} {n : Str} {b t : Int} (n1 : p ≠ a) (h1 : H p = some (.lst [.str "directory", .str n, .int b, .int t])) : (Mem.dir n b t).AtB a H p := fun H' y => y _ _ n1 h1
theorem atB_sym {a : Addr} {H : Hp} {p : Addr} {n g : Str} {b t : Int} (n1 : p ≠ a) (h1 : H p = some (.lst [.str "symlink", .str n, .int b, .int t, .str g])) : (Mem.sym n b t g).AtB a H p := fun H' y => y _ _ n1 h1
theorem atB_lnk {a : Addr} {H : Hp} {p : Addr} {n g : Str} {b t : Int} (n1 : p ≠ a) (h1 : H p = some (.lst [.str "link", .str n, .int b, .int t, .str g])) : (Mem.lnk n b t g).AtB a H p := fun H' y => y _ _ n1 h1
theorem but_upd {a : Addr} {H : Hp} {o : HO} : But a H (upd H a o) := fun b u nb e => by rw [upd_ne nb]; exact e
theorem upd_off {a b : Addr} {H : Hp} {u : HO} (h : upd H a (.tup []) b = some u) (hne : u ≠ .tup []) : b ≠ a ∧ H b = some u := by
  by_cases e : b = a
  · subst e
    rw [upd_same] at h
    exact absurd (Option.some.inj h).symm hne
  · rw [upd_ne e] at h
    exact ⟨e, h⟩
theorem inv_file {a : Addr} {H : Hp} {p : Addr} {n : Str} {b t : Int} {ns : List Int} (h : (Mem.file n b t ns).AtB a H p) : ∃ d, p ≠ a ∧ d ≠ a ∧ H p = some (.lst [.str "file", .str n, .int b, .int t, .ref d]) ∧ H d = some (.lst (ns.map V.int)) := by
  obtain ⟨d, h1, h2⟩ := h _ (but_upd (o := .tup []))
  obtain ⟨n1, g1⟩ := upd_off h1 (by intro h; cases h)
  obtain ⟨n2, g2⟩ := upd_off h2 (by intro h; cases h)
  exact ⟨d, n1, n2, g1, g2⟩
theorem inv_sparse {a : Addr} {H : Hp} {p : Addr} {n : Str} {b t z : Int} {sp : List (Int × List Int)} (h : (Mem.sparse n b t z sp).AtB a H p) : ∃ d as, p ≠ a ∧ d ≠ a ∧ H p = some (.lst [.str "sparse", .str n, .int b, .int t, .int z, .ref d]) ∧ H d = some (.lst (as.map V.ref)) ∧
    Paired (fun q (s : Int × List Int) => q ≠ a ∧ ∃ e, e ≠ a ∧ H q = some (.tup [.int s.1, .ref e]) ∧ H e = some (.lst (s.2.map V.int))) as sp := by
  obtain ⟨d, h1, as, h2, h3⟩ := h _ (but_upd (o := .tup []))
  obtain ⟨n1, g1⟩ := upd_off h1 (by intro h; cases h)
  obtain ⟨n2, g2⟩ := upd_off h2 (by intro h; cases h)
  refine ⟨d, as, n1, n2, g1, g2, Paired.mapP h3 fun q s ⟨e, k1, k2⟩ => ?_⟩
  obtain ⟨n3, g3⟩ := upd_off k1 (by intro h; cases h)
  obtain ⟨n4, g4⟩ := upd_off k2 (by intro h; cases h)
  exact ⟨n3, e, n4, g3, g4⟩
theorem inv_dir {a : Addr} {H : Hp} {p : Addr} {n : Str} {b t : Int} (h : (Mem.dir n b t).AtB a H p) : p ≠ a ∧ H p = some (.lst [.str "directory", .str n, .int b, .int t]) := upd_off (h _ but_upd) (by intro h; cases h)
theorem inv_sym {a : Addr} {H : Hp} {p : Addr} {n g : Str} {b t : Int} (h : (Mem.sym n b t g).AtB a H p) : p ≠ a ∧ H p = some (.lst [.str "symlink", .str n, .int b, .int t, .str g]) := upd_off (h _ but_upd) (by intro h; cases h)
theorem inv_lnk {a : Addr} {H : Hp} {p : Addr} {n g : Str} {b t : Int} (h : (Mem.lnk n b t g).AtB a H p) : p ≠ a ∧ H p = some (.lst [.str "link", .str n, .int b, .int t, .str g]) := upd_off (h _ but_upd) (by intro h; cases h)
def stampOk (n : Str) (b t : Int) : Prop := nameB n = true ∧ 0 ≤ b ∧ b ≤ 4095 ∧ 0 ≤ t ∧ t ≤ 8589934591
def Mem.Ok : Mem → Prop
  | .file n b t ns => stampOk n b t ∧ ns.length ≤ 4096 ∧ ns.all inByte = true
  | .sparse n b t z sp => stampOk n b t ∧ 0 ≤ z ∧ z ≤ 4096 ∧ sp.length ≤ 6 ∧ spansOk z 0 (sp.map fun s => (s.1, (s.2.length : Int))) ∧ ∀ s ∈ sp, s.2.all inByte = true
  | .dir n b t => stampOk n b t
  | .sym n b t g => stampOk n b t ∧ nameB g = true
  | .lnk n b t g => stampOk n b t ∧ nameB g = true
def Mem.Small : Mem → Prop
  | .file _ _ _ ns => ns.length ≤ 4000
  | _ => True
theorem spansOk_all {z : Int} : ∀ {e : Int} {sp : List (Int × Int)}, 0 ≤ e → spansOk z e sp → ∀ s ∈ sp, 0 ≤ s.1 ∧ 1 ≤ s.2 ∧ s.1 + s.2 ≤ z
  | _, [], _, _, s, hs => nomatch hs
  | e, (b, n) :: r, h, k, s, hs => by
    rcases List.mem_cons.mp hs with rfl | hs
    · exact ⟨Int.le_trans h k.1, k.2.1, k.2.2.1⟩
    · exact spansOk_all (e := b + n + 1) (by have := k.1; have := k.2.1; omega) k.2.2.2 s hs
theorem paired_at {α β : Type} {R : α → β → Prop} : ∀ {xs : List α} {ys : List β}, Paired R xs ys → ∀ {i : Nat} {x : α}, xs[i]? = some x → ∃ y, ys[i]? = some y ∧ R x y
  | _, _, .nil, i, x, h => by simp at h
  | _, _, .cons r t, 0, x, h => by
    rw [List.getElem?_cons_zero] at h
    cases h
    exact ⟨_, rfl, r⟩
  | _, _, .cons r t, i + 1, x, h => by
    rw [List.getElem?_cons_succ] at h
    exact paired_at t h
theorem take_snoc {α : Type} {l : List α} {i : Nat} {x : α} (h : l[i]? = some x) : l.take (i + 1) = l.take i ++ [x] := by
  rw [List.take_add_one, h]
  rfl
def kindV (v : V) : Prop := v = .str "file" ∨ v = .str "sparse" ∨ v = .str "directory" ∨ v = .str "symlink" ∨ v = .str "link"
section
variable {P : Program} {w : World} {K : PySem.W.Frag} {mg : Str → Option Value} {base : Heap}
def spRMem : Sp := fun vs H Q _ => ∃ (a : Addr), vs = [.ref a] ∧ Src H a ∧ ∀ p (m : Mem) H', H p = none → m.AtB a H' p → m.Ok → m.Small → Src H' a → But a H H' → Q (.ref p) H'
theorem sp_rmem {a : Addr} {H : Hp} {Q : VK} {E : XK} (h : Src H a) (k : ∀ p (m : Mem) H', H p = none → m.AtB a H' p → m.Ok → m.Small → Src H' a → But a H H' → Q (.ref p) H') : spRMem ([.ref a] ++ []) H Q E := ⟨a, rfl, h, k⟩
theorem ok_rmem {f : Addr} {fd : FuncData} {k : Nat} (F : Fun K "_law_random_member" "_law_random_member" s__law_random_member f fd) (m1 : mg "int" = none) (c_draw : CalT P w K mg base 2 "_law_draw" spDraw)
    (c_stamps : CalT P w K mg base 3 "_law_stamps" spStamps) (c_aname : CalT P w K mg base 4 "_law_any_name" spAName) (c_rnum : CalT P w K mg base 3 "_law_random_numbers" spRNum) (c_rsize : CalT P w K mg base 3 "_law_random_size" spRSize) (c_spans : CalT P w K mg base 3 "_law_random_spans" spSpans) :
    FnOk P w K mg base CX0 (k + 5) f fd ["_law_source_here"] spRMem := by
  refine F.ok sc__law_random_member (fun vs H Q E h => ?_) (fun cdv A outer s H vs Q E hr h => ?_)
  · obtain ⟨a, rfl, _⟩ := h
    rfl
  · obtain ⟨a, rfl, hs, q⟩ := h
    have hu := hu_of hr
    have nd := sc__law_random_member.nd
    refine ⟨_, (pss_cons (ps_set (i := 1) nd rfl (Or.inl rfl) (pe_ix (ix_listK K) (pe_lst (pa_cons pe_str (pa_cons pe_str (pa_cons pe_str (pa_cons pe_str (pa_cons pe_str (pa_cons pe_str pa_nil))))))) (pe_cc c_draw hr (by omega) (by rfl) (pa_cons (pv 0) (pa_cons pe_int pa_nil))) (fun _ _ => rfl)))
      (pss_cons (ps_asg (pe_cc c_stamps hr (by omega) (by rfl) (pa_cons (pv 0) pa_nil)) (pg_tupK K (pg_tup rfl (pgs_cons (pg_name (i := 2) nd rfl (Or.inl rfl)) (pgs_cons (pg_name (i := 3) nd rfl (Or.inl rfl)) pgs_nil)))))
      (pss_cons (ps_set (i := 4) nd rfl (Or.inl rfl) (pe_lst (pa_cons (pv 1) (pa_cons (pe_cc c_aname hr (by omega) (by rfl) (pa_cons (pv 0) pa_nil)) (pa_cons (pv 2) (pa_cons (pv 3) pa_nil))))))
      (pss_cons (ps_if (pt_cmpR op_eq (pv 1) pe_str (nomark _))
        (pss_one (ps_ret (pe_op op_cat (pv 4) (pe_lst (pa_cons (pe_cc c_rnum hr (by omega) (by rfl) (pa_cons (pv 0) (pa_cons (pe_cc c_rsize hr (by omega) (by rfl) (pa_cons (pv 0) pa_nil)) pa_nil))) pa_nil)))))
        pss_nil)
      (pss_cons (ps_if (pt_cmpR op_eq (pv 1) pe_str (nomark _))
        (pss_cons (ps_set (i := 5) nd rfl (Or.inl rfl) (pe_ix (ix_listK K) (pe_lst (pa_cons pe_int (pa_cons pe_int (pa_cons pe_int (pa_cons pe_int (pa_cons (pe_cc c_draw hr (by omega) (by rfl) (pa_cons (pv 0) (pa_cons pe_int pa_nil))) pa_nil)))))) (pe_cc c_draw hr (by omega) (by rfl) (pa_cons (pv 0) (pa_cons pe_int pa_nil))) (fun _ _ => rfl)))
      (pss_cons (ps_set (i := 6) nd rfl (Or.inl rfl) (pe_cc c_spans hr (by omega) (by rfl) (pa_cons (pv 0) (pa_cons (pv 5) pa_nil))))
      (pss_one (ps_ret (pe_op op_cat (pv 4) (pe_lst (pa_cons (pv 5) (pa_cons (pe_lc (own := [("_law_begin", 7), ("_law_many", 8)]) (g := (gTup K 2 (gCons (gName 7) (gCons (gName 8) gNil)))) (tt := tYes) rfl nd (pi_list (pv 6)) (blkOk_by (N := N__law_random_member) (sc := defScope s__law_random_member) (by decide +kernel)) (fun _ _ _ _ _ => (pg_tupK K (pg_tup rfl (pgs_cons (pg_name (i := 7) nd rfl (Or.inl rfl)) (pgs_cons (pg_name (i := 8) nd rfl (Or.inl rfl)) pgs_nil))))) (fun _ _ _ _ _ => pts_nil) (fun _ _ _ _ _ => (pe_tup (pa_cons (pv 7) (pa_cons (pe_cc c_rnum hr (by omega) (by rfl) (pa_cons (pv 0) (pa_cons (pv 8) pa_nil))) pa_nil))))) pa_nil))))))))
        pss_nil)
      (pss_one (ps_ret (pe_op op_cat (pv 4) (pe_op op_rep (pe_lst (pa_cons (pe_cc c_aname hr (by omega) (by rfl) (pa_cons (pv 0) pa_nil)) pa_nil)) (pe_callTy call_rIntB (by rfl) (by assumption) (by decide +kernel) (pa_cons (pe_cmpR (op_inK K) (pv 1) (pe_tup (pa_cons pe_str (pa_cons pe_str pa_nil))) (by rfl)) pa_nil))))))))))), ?_⟩
    walk_at "st"
    refine r_pick kindV rfl (by decide) (by decide) (fun Q' h => ?_) ?_
    · walk_at "rd"
      refine h _ _ rfl ?_ hs (.refl _ _)
      intro v hv
      simp only [List.mem_cons, List.not_mem_nil, or_false] at hv
      rcases hv with rfl | rfl | rfl | rfl | rfl | rfl
      · exact .inl rfl
      · exact .inl rfl
      · exact .inr (.inl rfl)
      · exact .inr (.inr (.inl rfl))
      · exact .inr (.inr (.inr (.inl rfl)))
      · exact .inr (.inr (.inr (.inr rfl)))
    rintro v H1 hk hs1 hb1
    walk_at "rd"
    refine sp_stamps hs1 (fun tp b t H2 htp gtp b0 b1 t0 t1 hs2 hb2 => ?_)
    walk_at "rd"
    refine sp_aname hs2 (fun n H3 hn hs3 hb3 => ?_)
    have st : stampOk n b t := ⟨hn, b0, b1, t0, t1⟩
    have hb13 := (hb1.trans hb2).trans hb3
    walk_at "rd"
    rename_i L0 hL0
    have hs4 := hs3.new (o := HO.lst [v, V.str n, V.int b, V.int t]) hL0
    have hb14 : But a H (upd H3 L0 (HO.lst [v, V.str n, V.int b, V.int t])) := hb13.trans (Same.but (same_new hL0))
    have nL0 := hs3.ne hL0
    have gL0 : (upd H3 L0 (HO.lst [v, V.str n, V.int b, V.int t])) L0 = some (.lst [v, V.str n, V.int b, V.int t]) := upd_same
    generalize upd H3 L0 (HO.lst [v, V.str n, V.int b, V.int t]) = H4 at *
    rcases hk with rfl | rfl | rfl | rfl | rfl
    · walk_at "rd"
      refine r_iteD (fun _ => ?_) (fun h => absurd rfl h)
      walk_at "rd"
      refine sp_rsize hs4 (fun sz H5 z0 z1 hs5 hb5 => ?_)
      walk_at "rd"
      refine sp_rnum hs5 z0 (by omega) (fun p ns H6 hp gns hlen hall hs6 hb6 => ?_)
      have gL6 := (hb5.trans hb6) L0 _ nL0 gL0
      have hb16 := hb14.trans (hb5.trans hb6)
      walk_at "rd"
      rename_i LB hLB LC hLC
      have sb := (same_new (o := HO.lst [V.ref p]) hLB).trans (same_new (o := HO.lst ([V.str "file", V.str n, V.int b, V.int t] ++ [V.ref p])) hLC)
      exact q LC (.file n b t ns) _ (But.back hs hs6 hb16 ((same_new hLB).free hLC)) (atB_file (hs6.ne ((same_new hLB).free hLC)) (hs5.ne hp) upd_same (sb _ _ gns)) ⟨st, by omega, hall⟩ (show ns.length ≤ 4000 by omega) (hs6.same sb) (hb16.trans (Same.but sb))
    · walk_at "rd"
      refine r_iteD (fun _ => ?_) (fun h => absurd rfl h)
      walk_at "st"
      refine r_pick (intIn 0 4096) rfl (by decide) (by decide) (fun Q' h => ?_) ?_
      · walk_at "rd"
        refine sp_draw hs4 (by decide) (by decide) (fun d H2 d0 d1 hs2 hb2 => ?_)
        walk_at "rd"
        refine h _ _ rfl ?_ hs2 hb2
        intro v hv
        simp only [List.mem_cons, List.not_mem_nil, or_false] at hv
        rcases hv with rfl | rfl | rfl | rfl | rfl
        all_goals exact ⟨_, rfl, by omega, by omega⟩
      rintro v H5 ⟨z, rfl, z0, z1⟩ hs5 hb5
      walk_at "rd"
      refine sp_spans hs5 (fun S sp H6 hS gS hlen hok hs6 hb6 => ?_)
      obtain ⟨as, hS1, hpd⟩ := gS
      have gL6 := (hb5.trans hb6) L0 _ nL0 gL0
      have hb16 := hb14.trans (hb5.trans hb6)
      have hlenA : as.length = sp.length := hpd.length
      walk_at "rd"
      intro D hD
      have nDa := hs6.ne hD
      refine lc_it (walk_list (xs := as.map V.ref)) (fun i H' => Src H' a ∧ But a H6 H' ∧ ∃ (ps : List (Int × List Int)) (bs : List Addr), H' D = some (.lst (bs.map V.ref)) ∧
          Paired (fun q (s : Int × List Int) => q ≠ a ∧ q ≠ D ∧ ∃ e, e ≠ a ∧ e ≠ D ∧ H' q = some (.tup [.int s.1, .ref e]) ∧ H' e = some (.lst (s.2.map V.int))) bs ps ∧ ps.map (fun s => (s.1, (s.2.length : Int))) = sp.take i ∧ (∀ s ∈ ps, s.2.all inByte = true)) ?_ ?_ ?_ ?_
      · exact ⟨hs6.new hD, Same.but (same_new hD), [], [], upd_same, .nil, rfl, fun _ h => nomatch h⟩
      · rintro i H' _ ⟨hs', hb', _⟩
        refine SqL.of (hb' S _ ?_ hS1)
        intro x
        obtain ⟨l, m, c, ha, _⟩ := hs6
        rw [x, ha] at hS1
        cases as with
        | nil => simp at hS1
        | cons y ys => simp at hS1
      · rintro i x Hc H' hi ⟨hs', hb', ps, bs, hD', hpp, hps, hpb⟩ ⟨rfl, hx⟩
        rw [List.getElem?_map] at hx
        obtain ⟨qa, hqa, rfl⟩ : ∃ qa, as[i]? = some qa ∧ V.ref qa = x := by
          cases e : as[i]? with
          | none => rw [e] at hx; cases hx
          | some qa => rw [e] at hx; exact ⟨qa, rfl, Option.some.inj hx⟩
        obtain ⟨s, hsi, hqt⟩ := paired_at hpd hqa
        obtain ⟨s0, s1, s2⟩ := spansOk_all (Int.le_refl 0) hok s (List.mem_of_getElem? hsi)
        have nq : qa ≠ a := by
          intro x
          obtain ⟨l, m, c, ha, _⟩ := hs6
          rw [x, ha] at hqt
          cases hqt
        have hq' : H' qa = some (.tup [.int s.1, .int s.2]) := hb' _ _ nq hqt
        walk_at "rd"
        refine ⟨rfl, ?_⟩
        unfold tYes
        dsimp only
        rw [if_pos rfl]
        walk_at "rd"
        refine sp_rnum hs' (by omega) (by omega) (fun e ns H7 he gns hlen' hall hs7 hb7 => ?_)
        walk_at "rd"
        rename_i T hT
        have gD7 : H7 D = some (.lst (bs.map V.ref)) := hb7 _ _ nDa hD'
        have nTD : T ≠ D := (ne_of_none gD7 hT).symm
        have hbl : (bs.map V.ref).length ≤ 6 := by
          rw [List.length_map, hpp.length]
          have := congrArg List.length hps
          rw [List.length_map, List.length_take] at this
          omega
        refine ⟨_, upd_old hT gD7, Nat.lt_of_le_of_lt hbl (by decide), ?_, ?_, ps ++ [(s.1, ns)], bs ++ [T], by rw [upd_same, List.map_append]; rfl, ?_, ?_, ?_⟩
        · obtain ⟨l, m, c, ha, r⟩ := hs7
          exact ⟨l, m, c, by rw [upd_ne nDa.symm, upd_ne (ne_of_none ha hT)]; exact ha, r⟩
        · intro b' o nb eo
          have e7 := (hb'.trans hb7) b' o nb eo
          rw [upd_ne (ne_of_none eo hD), upd_ne (ne_of_none e7 hT)]
          exact e7
        · have step : ∀ {y : Addr} {o : HO}, y ≠ a → y ≠ D → H' y = some o → (upd (upd H7 T (HO.tup [V.int s.1, V.ref e])) D (HO.lst (bs.map V.ref ++ [V.ref T]))) y = some o := fun na nD hy => by
            have h7 := hb7 _ _ na hy
            rw [upd_ne nD, upd_ne (ne_of_none h7 hT)]
            exact h7
          have nea : e ≠ a := hs'.ne he
          have neD : e ≠ D := (ne_of_none hD' he).symm
          refine paired_snoc (Paired.mapP hpp fun y s ⟨n1, n2, x, n3, n4, g1, g2⟩ => ⟨n1, n2, x, n3, n4, step n1 n2 g1, step n3 n4 g2⟩) ⟨hs7.ne hT, nTD, e, nea, neD, ?_, ?_⟩
          · rw [upd_ne nTD, upd_same]
          · rw [upd_ne neD, upd_ne (ne_of_none gns hT)]
            exact gns
        · rw [List.map_append, hps, take_snoc hsi]
          have : (ns.length : Int) = s.2 := hlen'
          simp only [List.map_cons, List.map_nil, this]
        · intro s' hs'
          rcases List.mem_append.mp hs' with h | h
          · exact hpb s' h
          · rw [List.mem_singleton] at h
            rw [h]
            exact hall
      · rintro Hc ⟨hs', hb', ps, bs, hD', hpp, hps, hpb⟩
        have hlenP : ps.length ≤ 6 := by
          have := congrArg List.length hps
          rw [List.length_map, List.length_take] at this
          omega
        have gL' := hb' L0 _ nL0 gL6
        have hPL : PiecesL Hc D ps := ⟨bs, hD', Paired.mapP hpp fun y s ⟨_, _, x, _, _, g1, g2⟩ => ⟨x, g1, g2⟩⟩
        have hb17 := hb16.trans hb'
        walk_at "rd"
        rename_i LB hLB LC hLC
        have sb := (same_new (o := HO.lst [V.int z, V.ref D]) hLB).trans (same_new (o := HO.lst ([V.str "sparse", V.str n, V.int b, V.int t] ++ [V.int z, V.ref D])) hLC)
        refine q LC (.sparse n b t z ps) _ (But.back hs hs' hb17 ((same_new hLB).free hLC)) (atB_sparse (hs'.ne ((same_new hLB).free hLC)) nDa upd_same (sb _ _ hD') (Paired.mapP hpp fun y s ⟨k1, _, x, k3, _, g1, g2⟩ => ⟨k1, x, k3, sb _ _ g1, sb _ _ g2⟩)) ⟨st, z0, z1, hlenP, ?_, hpb⟩ True.intro (hs'.same sb) (hb17.trans (Same.but sb))
        rw [hps, List.length_map, hlenA, List.take_length]
        exact hok
    · have hin : inV (V.str "directory") [V.str "symlink", V.str "link"] = false := by decide +kernel
      walk_at "rd"
      refine sp_aname hs4 (fun g H5 hg hs5 hb5 => ?_)
      have gL5 := hb5 L0 _ nL0 gL0
      have hb15 := hb14.trans hb5
      walk_at "rd"
      rw [hin]
      rename_i LB hLB TT hTT LC hLC LD hLD
      have sb := (((same_new (o := HO.lst [V.str g]) hLB).trans (same_new (o := HO.tup [V.str "symlink", V.str "link"]) hTT)).trans (same_new (o := HO.lst []) hLC)).trans (same_new (o := HO.lst ([V.str "directory", V.str n, V.int b, V.int t] ++ [])) hLD)
      exact q LD (.dir n b t) _ (But.back hs hs5 hb15 ((((same_new hLB).trans (same_new hTT)).trans (same_new hLC)).free hLD)) (atB_dir (hs5.ne ((((same_new hLB).trans (same_new hTT)).trans (same_new hLC)).free hLD)) upd_same) st True.intro (hs5.same sb) (hb15.trans (Same.but sb))
    · have hin : inV (V.str "symlink") [V.str "symlink", V.str "link"] = true := by decide +kernel
      walk_at "rd"
      refine sp_aname hs4 (fun g H5 hg hs5 hb5 => ?_)
      have gL5 := hb5 L0 _ nL0 gL0
      have hb15 := hb14.trans hb5
      walk_at "rd"
      rw [hin]
      rename_i LB hLB TT hTT LC hLC LD hLD
      have sb := (((same_new (o := HO.lst [V.str g]) hLB).trans (same_new (o := HO.tup [V.str "symlink", V.str "link"]) hTT)).trans (same_new (o := HO.lst [V.str g]) hLC)).trans (same_new (o := HO.lst ([V.str "symlink", V.str n, V.int b, V.int t] ++ [V.str g])) hLD)
      exact q LD (.sym n b t g) _ (But.back hs hs5 hb15 ((((same_new hLB).trans (same_new hTT)).trans (same_new hLC)).free hLD)) (atB_sym (hs5.ne ((((same_new hLB).trans (same_new hTT)).trans (same_new hLC)).free hLD)) upd_same) ⟨st, hg⟩ True.intro (hs5.same sb) (hb15.trans (Same.but sb))
    · have hin : inV (V.str "link") [V.str "symlink", V.str "link"] = true := by decide +kernel
      walk_at "rd"
      refine sp_aname hs4 (fun g H5 hg hs5 hb5 => ?_)
      have gL5 := hb5 L0 _ nL0 gL0
      have hb15 := hb14.trans hb5
      walk_at "rd"
      rw [hin]
      rename_i LB hLB TT hTT LC hLC LD hLD
      have sb := (((same_new (o := HO.lst [V.str g]) hLB).trans (same_new (o := HO.tup [V.str "symlink", V.str "link"]) hTT)).trans (same_new (o := HO.lst [V.str g]) hLC)).trans (same_new (o := HO.lst ([V.str "link", V.str n, V.int b, V.int t] ++ [V.str g])) hLD)
      exact q LD (.lnk n b t g) _ (But.back hs hs5 hb15 ((((same_new hLB).trans (same_new hTT)).trans (same_new hLC)).free hLD)) (atB_lnk (hs5.ne ((((same_new hLB).trans (same_new hTT)).trans (same_new hLC)).free hLD)) upd_same) ⟨st, hg⟩ True.intro (hs5.same sb) (hb15.trans (Same.but sb))
end
end Th
namespace Th
open PySem PySem.Spec PyProof.Rows L2
local macro_rules | `(tactic| walk_at "lk") => `(tactic| first
  | assumption
  | exact upd_same
  | (refine upd_old (by assumption) ?_; walk_at "lk")
  | (refine upd_diff (by assumption) ?_; walk_at "lk")
  | (refine upd_diff (Ne.symm (by assumption)) ?_; walk_at "lk"))
local macro_rules | `(tactic| walk_at "cnd") => `(tactic| first
  | omega
  | (refine ⟨by omega, by omega⟩)
  | (refine ⟨by omega, by omega, by omega⟩)
  | (refine .inl ⟨by omega, by omega⟩)
  | (refine .inr ⟨by omega, by omega⟩)
  | (exact (show CPow _ _ from ⟨by decide, by decide, by omega⟩))
  | decide +kernel
  | (unfold CMulW; decide +kernel)
  | (exact wide_div (b := 64) (by omega) (by omega) (by decide) (by decide)))
local macro_rules | `(tactic| walk_at "rd1") => `(tactic| first
  | (with_reducible refine r_seq ?_)
  | (with_reducible refine r_asg ?_)
  | (with_reducible refine r_ret ?_)
  | (with_reducible refine r_if ?_)
  | (with_reducible refine r_gname ?_)
  | ((with_reducible refine' r_var ?hv ?_); (case hv => exact rfl))
  | (with_reducible refine r_c ?_)
  | (with_reducible refine r_op ?_)
  | (with_reducible refine r_I0 ?_)
  | ((with_reducible refine r_I ?hc ?_); (case hc => walk_at "cnd"))
  | (with_reducible refine r_test ?_)
  | (with_reducible refine r_tB ?_)
  | (with_reducible refine r_bl ?_)
  | (with_reducible refine r_not ?_)
  | (with_reducible refine r_and ?_)
  | (with_reducible refine r_or ?_)
  | (with_reducible refine r_ifE ?_)
  | (with_reducible refine r_notV ?_)
  | (with_reducible refine r_andV ?_)
  | (with_reducible refine r_orV ?_)
  | (with_reducible refine r_chain ?_)
  | (with_reducible refine r_cb ?_)
  | (with_reducible refine r_call ?_)
  | (with_reducible refine r_callN ?_)
  | (with_reducible refine r_nil ?_)
  | (with_reducible refine r_cons ?_)
  | ((with_reducible refine r_lst ?_))
  | ((with_reducible refine r_tup ?_))
  | ((with_reducible refine r_new ?_ ?_); (exact Nat.le_of_ble_eq_true rfl); (intro p hp))
  | (with_reducible refine r_rInt1 ?_)
  | (with_reducible refine r_rIntB ?_)
  | (with_reducible refine r_rAbs ?_)
  | (with_reducible refine r_rMin2 ?_)
  | (with_reducible refine r_rMax2 ?_)
  | ((with_reducible refine r_rLenZ ?hz ?_); (case hz => first | assumption | exact Nat.le_of_ble_eq_true rfl | (refine Nat.le_trans ?_ (by decide : 100000 ≤ sizeLine); omega)))
  | ((with_reducible refine r_addZ ?hz ?_); (case hz => (refine Nat.le_trans ?_ (by decide : 100000 ≤ sizeLine); first | omega | (simp only [Str.length] at *; simp; omega))))
  | ((with_reducible refine r_mulZ ?hz ?h0 ?h1 ?_); (case hz => first | omega | exact Nat.le_of_ble_eq_true rfl); (case h0 => omega); (case h1 => omega))
  | ((with_reducible refine' r_rLenQ ?h1 ?_); (case h1 => first | (exact .inl (by assumption)) | (exact .inr (by assumption)) | (exact .inl (SqL.of (by walk_at "lk"))) | (exact .inr (SqT.of (by walk_at "lk")))))
  | ((with_reducible refine r_eq ?hs ?_); (case hs => exact rfl))
  | ((with_reducible refine r_ne ?hs ?_); (case hs => exact rfl))
  | (with_reducible refine r_inC ?_)
  | ((with_reducible refine' r_cat ?h1 ?h2 ?h3 ?_); (case h1 => walk_at "lk"); (case h2 => walk_at "lk"); (case h3 => exact Nat.le_of_ble_eq_true rfl); (intro p hp))
  | ((with_reducible refine' r_rep ?h1 ?h2 ?h3 ?h4 ?_); (case h1 => walk_at "lk"); (case h2 => omega); (case h3 => omega); (case h4 => exact Nat.le_of_ble_eq_true rfl); (intro p hp))
  | ((with_reducible refine' r_append ?h1 ?h2 ?_); (case h1 => walk_at "lk"); (case h2 => first | exact (show _ + 1 ≤ sizeLine from Nat.le_of_ble_eq_true rfl) | exact Nat.lt_of_le_of_lt (by omega : _ ≤ 100000) (by decide)))
  | (with_reducible refine r_bm ?_)
  | ((with_reducible refine' r_tyL ?h1 ?_); (case h1 => walk_at "lk"))
  | ((with_reducible refine' r_ixL ?h1 ?h2 ?_); (case h1 => first | assumption | exact SqL.of (by walk_at "lk")); (case h2 => exact rfl))
  | ((with_reducible refine' r_ixT ?h1 ?h2 ?_); (case h1 => first | assumption | exact SqT.of (by walk_at "lk")); (case h2 => exact rfl))
  | (with_reducible refine r_gsub ?_)
  | ((with_reducible refine' r_setL ?h1 ?h2 ?_); (case h1 => walk_at "lk"); (case h2 => exact rfl))
  | (with_reducible refine r_un ?_)
  | (with_reducible refine r_neg ?_)
  | (with_reducible refine r_iteT ?_)
  | (with_reducible refine r_iteNT ?_)
  | (with_reducible refine r_iteNF ?_)
  | (with_reducible refine r_iteF ?_)
  | (with_reducible refine r_next ?_)
  | (with_reducible refine r_drop ?_)
  | (with_reducible refine r_cont ?_)
  | (with_reducible refine r_brk ?_))
local macro_rules | `(tactic| walk_at "ty") => `(tactic| first
  | assumption
  | exact .base (.int _)
  | exact .base (.str _)
  | exact .base (.bl _)
  | exact .base .non
  | exact .byt _
  | exact .base (.lst (by walk_at "lk"))
  | exact .base (.tup (by walk_at "lk")))
local macro_rules | `(tactic| walk_at "rd2") => `(tactic| first
  | walk_at "rd1"
  | ((with_reducible refine' r_isi true ?ht ?hk ?_); (case ht => walk_at "ty"); (case hk => first | assumption | decide +kernel))
  | ((with_reducible refine' r_isi false ?ht ?hk ?_); (case ht => walk_at "ty"); (case hk => first | assumption | decide +kernel))
  | ((with_reducible refine' r_isiT2 true true ?hT ?ht ?hk ?hk2 ?_); (case hT => walk_at "lk"); (case ht => walk_at "ty"); (case hk => decide +kernel); (case hk2 => decide +kernel))
  | ((with_reducible refine' r_isiT2 true false ?hT ?ht ?hk ?hk2 ?_); (case hT => walk_at "lk"); (case ht => walk_at "ty"); (case hk => decide +kernel); (case hk2 => decide +kernel))
  | ((with_reducible refine' r_isiT2 false true ?hT ?ht ?hk ?hk2 ?_); (case hT => walk_at "lk"); (case ht => walk_at "ty"); (case hk => decide +kernel); (case hk2 => decide +kernel))
  | ((with_reducible refine' r_isiT2 false false ?hT ?ht ?hk ?hk2 ?_); (case hT => walk_at "lk"); (case ht => walk_at "ty"); (case hk => decide +kernel); (case hk2 => decide +kernel))
  | (with_reducible refine r_iteNT ?_)
  | ((show (if (!true) = true then _ else _)); refine r_iteNT ?_)
  | (with_reducible refine r_r1 ?_)
  | (with_reducible refine r_maks ?_)
  | (with_reducible refine r_sfld ?_)
  | ((with_reducible refine' r_sfldE ?h1 ?h2 ?h3 ?h4 ?_); (case h1 => walk_at "lk"); (case h2 => assumption); (case h3 => assumption); (case h4 => exact (show _ + 1 ≤ 1000 from Nat.le_of_ble_eq_true rfl)))
  | (with_reducible refine r_fld ?_)
  | (with_reducible refine r_join ?_)
  | (with_reducible refine r_jcons ?_)
  | (with_reducible refine r_jnil ?_)
  | ((with_reducible refine r_rLenY ?hz ?_); (case hz => first | assumption | (refine Nat.le_trans ?_ (by decide : 100000 ≤ sizeLine); omega)))
  | (with_reducible refine r_par ?_)
  | (with_reducible refine r_pair ?_)
  | (with_reducible refine r_par3 ?_)
  | (with_reducible refine r_trip ?_)
  | ((with_reducible refine' r_gtup ?h1 ?h2 ?_); (case h1 => first | assumption | exact SqT.of (by walk_at "lk")); (case h2 => exact rfl))
  | (with_reducible refine r_gcons ?_)
  | (with_reducible refine r_gnil ?_)
  | ((with_reducible refine' r_slL ?h1 ?_); (case h1 => first | assumption | exact SqL.of (by walk_at "lk")); (intro p hp))
  | (with_reducible refine r_iTup ?_)
  | ((with_reducible refine' r_tupE ?h1 ?_); (case h1 => first | assumption | exact SqT.of (by walk_at "lk")))
  | (with_reducible refine r_m1 ?_)
  | (with_reducible refine r_isZ ?_)
  | (with_reducible refine r_sl ?_)
  | (with_reducible refine r_noPart ?_)
  | (with_reducible refine r_part ?_)
  | (with_reducible refine r_partE ?_)
  | ((with_reducible refine r_slS ?hz ?_); (case hz => first | assumption | (refine Nat.le_trans ?_ (by decide : 100000 ≤ sizeLine); omega)))
  | ((with_reducible refine' r_inT ?h1 ?h2 ?h3 ?_); (case h1 => first | assumption | (exact SqT.of (by walk_at "lk"))); (case h2 => exact rfl); (case h3 => exact rfl))
  | ((with_reducible refine' r_inL ?h1 ?h2 ?h3 ?_); (case h1 => first | assumption | (exact SqL.of (by walk_at "lk"))); (case h2 => exact rfl); (case h3 => exact rfl))
  | (with_reducible refine r_lc ?_)
  | (with_reducible refine r_for ?_)
  | (with_reducible refine r_iStr ?_)
  | (with_reducible refine r_strE ?_)
  | (with_reducible refine r_iList ?_)
  | ((with_reducible refine' r_listE ?h1 ?_); (case h1 => first | assumption | exact SqL.of (by walk_at "lk")))
  | (with_reducible refine r_iRng1 ?_)
  | ((with_reducible refine' r_rngE ?h0 ?h1 ?_); (case h0 => first | omega | (split <;> omega)); (case h1 => first | omega | (split <;> omega))))
local macro_rules | `(tactic| walk_at "rd") => `(tactic| (repeat walk_at "rd2"))
local macro_rules | `(tactic| walk_at "st") => `(tactic| (repeat (first
  | (with_reducible refine r_gname ?_)
  | (with_reducible refine r_next ?_)
  | (with_reducible refine r_seq ?_)
  | (with_reducible refine r_asg ?_)
  | (with_reducible refine r_ret ?_)
  | (with_reducible refine r_for ?_)
  | (with_reducible refine r_iRng1 ?_)
  | (with_reducible refine r_iList ?_)
  | (with_reducible refine r_cons ?_)
  | (with_reducible refine r_par ?_)
  | (with_reducible refine r_par3 ?_))))
abbrev s_is_data : Stmt := topS 22
abbrev N_is_data : List Str := ["thing"]
theorem sc_is_data : FnScope N_is_data ["thing"] (defScope s_is_data) := ⟨rfl, rfl, rfl, by decide +kernel, rfl, by decide +kernel, by decide +kernel⟩
abbrev s_is_size : Stmt := topS 23
abbrev N_is_size : List Str := ["thing"]
theorem sc_is_size : FnScope N_is_size ["thing"] (defScope s_is_size) := ⟨rfl, rfl, rfl, by decide +kernel, rfl, by decide +kernel, by decide +kernel⟩
abbrev s_is_mode : Stmt := topS 24
abbrev N_is_mode : List Str := ["thing"]
theorem sc_is_mode : FnScope N_is_mode ["thing"] (defScope s_is_mode) := ⟨rfl, rfl, rfl, by decide +kernel, rfl, by decide +kernel, by decide +kernel⟩
abbrev s_is_time : Stmt := topS 25
abbrev N_is_time : List Str := ["thing"]
theorem sc_is_time : FnScope N_is_time ["thing"] (defScope s_is_time) := ⟨rfl, rfl, rfl, by decide +kernel, rfl, by decide +kernel, by decide +kernel⟩
abbrev s_are_spans : Stmt := topS 28
abbrev N_are_spans : List Str := ["size", "spans", "least", "offset", "length"]
theorem sc_are_spans : FnScope N_are_spans ["size", "spans"] (defScope s_are_spans) := ⟨rfl, rfl, rfl, by decide +kernel, rfl, by decide +kernel, by decide +kernel⟩
theorem paired_mapR {α β γ : Type} {R : α → γ → Prop} {g : β → γ} : ∀ {xs : List α} {ys : List β}, Paired (fun x y => R x (g y)) xs ys → Paired R xs (ys.map g)
  | _, _, .nil => .nil
  | _, _, .cons r t => .cons r (paired_mapR t)
/-! ### the checks, where nothing is refused -/
section
variable {P : Program} {w : World} {K : PySem.W.Frag} {mg : Str → Option Value} {base : Heap}
def spCName : Sp := fun vs H Q _ => ∃ z : Str, vs = [.str z] ∧ nameB z = true ∧ ∀ H', Same H H' → Q .non H'
theorem sp_cname {z : Str} {H : Hp} {Q : VK} {E : XK} (h : nameB z = true) (k : ∀ H', Same H H' → Q .non H') : spCName ([.str z] ++ []) H Q E := ⟨z, rfl, h, k⟩
theorem ok_cname {f : Addr} {fd : FuncData} {k : Nat} (F : Fun K "check_name" "check_name" s_check_name f fd) (c_is_name : CalT P w K mg base 2 "is_name" (spName K)) : FnOk P w K mg base CX0 (k + 3) f fd ["thing"] spCName := by
  refine F.ok sc_check_name (fun vs H Q E h => ?_) (fun cdv A outer s H vs Q E hr h => ?_)
  · obtain ⟨z, rfl, _⟩ := h
    rfl
  · obtain ⟨z, rfl, hz, q⟩ := h
    have hu := hu_of hr
    have nd := sc_check_name.nd
    have hl : z.length ≤ 5000 := by have := (of_name hz).2.1; omega
    refine ⟨_, (pss_one (ps_if (pt_not (pt_val (pe_cc c_is_name hr (by omega) (by rfl) (pa_cons (pv 0) pa_nil))))
        (pss_one ps_never)
        pss_nil)), ?_⟩
    walk_at "rd"
    refine sp_name (.inl ⟨z, rfl, hl⟩) (fun H1 e1 => ?_)
    have hv : nameV (.str z) = true := hz
    rw [hv]
    walk_at "rd"
    exact q _ e1
def spIsData : Sp := fun vs H Q _ => ∃ y : Array UInt8, vs = [.byt y] ∧ y.size ≤ 4096 ∧ Q (.bl true) H
theorem sp_isdata {y : Array UInt8} {H : Hp} {Q : VK} {E : XK} (h : y.size ≤ 4096) (k : Q (.bl true) H) : spIsData ([.byt y] ++ []) H Q E := ⟨y, rfl, h, k⟩
theorem ok_isdata {f : Addr} {fd : FuncData} {k : Nat} {t1 : Tok} (F : Fun K "is_data" "is_data" s_is_data f fd) (m1 : mg "isinstance" = none) (m2 : mg "bytes" = none) (m3 : mg "len" = none) (m_MB : mg "MOST_BYTES" = some (.int 4096 t1)) : FnOk P w K mg base CX0 (k + 2) f fd ["thing"] spIsData := by
  refine F.ok sc_is_data (fun vs H Q E h => ?_) (fun cdv A outer s H vs Q E hr h => ?_)
  · obtain ⟨z, rfl, _⟩ := h
    rfl
  · obtain ⟨y, rfl, hz, q⟩ := h
    have hu := hu_of hr
    have nd := sc_is_data.nd
    refine ⟨_, (pss_one (ps_ret (pe_and (pe_callB (call_isiK1 K) (by rfl) (by assumption) (by decide +kernel) (pa_cons (pv 0) (pa_cons (pe_bltn (v := .ty "bytes") (by rfl) (by assumption) (by decide +kernel) rfl) pa_nil))) (pe_one (pe_cmpR op_le (pe_callB call_rLenY (by rfl) (by assumption) (by decide +kernel) (pa_cons (pv 0) pa_nil)) (pe_glob (v := .int 4096) (by rfl) m_MB (by first | exact rfl | exact ⟨_, rfl⟩)) (nomark _)))))), ?_⟩
    walk_at "rd"
    rw [decide_eq_true (by omega : (y.size : Int) ≤ 4096)]
    exact q
def spCData : Sp := fun vs H Q _ => ∃ y : Array UInt8, vs = [.byt y] ∧ y.size ≤ 4096 ∧ ∀ H', Same H H' → Q .non H'
theorem sp_cdata {y : Array UInt8} {H : Hp} {Q : VK} {E : XK} (h : y.size ≤ 4096) (k : ∀ H', Same H H' → Q .non H') : spCData ([.byt y] ++ []) H Q E := ⟨y, rfl, h, k⟩
theorem ok_cdata {f : Addr} {fd : FuncData} {k : Nat} (F : Fun K "check_data" "check_data" s_check_data f fd) (c_isdata : CalT P w K mg base 2 "is_data" spIsData) : FnOk P w K mg base CX0 (k + 3) f fd ["thing"] spCData := by
  refine F.ok sc_check_data (fun vs H Q E h => ?_) (fun cdv A outer s H vs Q E hr h => ?_)
  · obtain ⟨z, rfl, _⟩ := h
    rfl
  · obtain ⟨y, rfl, hz, q⟩ := h
    have hu := hu_of hr
    have nd := sc_check_data.nd
    refine ⟨_, (pss_one (ps_if (pt_not (pt_val (pe_cc c_isdata hr (by omega) (by rfl) (pa_cons (pv 0) pa_nil))))
        (pss_one ps_never)
        pss_nil)), ?_⟩
    walk_at "rd"
    refine sp_isdata hz ?_
    walk_at "rd"
    exact q _ (Same.refl _)
def spIn (lo hi : Int) : Sp := fun vs H Q _ => ∃ i : Int, vs = [.int i] ∧ Q (.bl (decide (lo ≤ i) && decide (i ≤ hi))) H
theorem sp_in {lo hi i : Int} {H : Hp} {Q : VK} {E : XK} (h0 : lo ≤ i) (h1 : i ≤ hi) (k : Q (.bl true) H) : spIn lo hi ([.int i] ++ []) H Q E := ⟨i, rfl, by rw [decide_eq_true h0, decide_eq_true h1]; exact k⟩
theorem ok_issize {f : Addr} {fd : FuncData} {k : Nat} {t1 : Tok} (F : Fun K "is_size" "is_size" s_is_size f fd) (m_MB : mg "MOST_BYTES" = some (.int 4096 t1)) (c_within : CalT P w K mg base 2 "is_integer_within" spWithin) : FnOk P w K mg base CX0 (k + 3) f fd ["thing"] (spIn 0 4096) := by
  refine F.ok sc_is_size (fun vs H Q E h => ?_) (fun cdv A outer s H vs Q E hr h => ?_)
  · obtain ⟨z, rfl, _⟩ := h
    rfl
  · obtain ⟨y, rfl, q⟩ := h
    have hu := hu_of hr
    have nd := sc_is_size.nd
    refine ⟨_, (pss_one (ps_ret (pe_cc c_within hr (by omega) (by rfl) (pa_cons (pv 0) (pa_cons pe_int (pa_cons (pe_glob (v := .int 4096) (by rfl) m_MB (by first | exact rfl | exact ⟨_, rfl⟩)) pa_nil)))))), ?_⟩
    walk_at "rd"
    refine sp_within ?_
    exact q
theorem ok_ismode {f : Addr} {fd : FuncData} {k : Nat} {t1 : Tok} (F : Fun K "is_mode" "is_mode" s_is_mode f fd) (m_LM : mg "LAST_MODE" = some (.int 4095 t1)) (c_within : CalT P w K mg base 2 "is_integer_within" spWithin) : FnOk P w K mg base CX0 (k + 3) f fd ["thing"] (spIn 0 4095) := by
  refine F.ok sc_is_mode (fun vs H Q E h => ?_) (fun cdv A outer s H vs Q E hr h => ?_)
  · obtain ⟨z, rfl, _⟩ := h
    rfl
  · obtain ⟨y, rfl, q⟩ := h
    have hu := hu_of hr
    have nd := sc_is_mode.nd
    refine ⟨_, (pss_one (ps_ret (pe_cc c_within hr (by omega) (by rfl) (pa_cons (pv 0) (pa_cons pe_int (pa_cons (pe_glob (v := .int 4095) (by rfl) m_LM (by first | exact rfl | exact ⟨_, rfl⟩)) pa_nil)))))), ?_⟩
    walk_at "rd"
    refine sp_within ?_
    exact q
theorem ok_istime {f : Addr} {fd : FuncData} {k : Nat} {t1 : Tok} (F : Fun K "is_time" "is_time" s_is_time f fd) (m_LT : mg "LAST_TIME" = some (.int 8589934591 t1)) (c_within : CalT P w K mg base 2 "is_integer_within" spWithin) : FnOk P w K mg base CX0 (k + 3) f fd ["thing"] (spIn 0 8589934591) := by
  refine F.ok sc_is_time (fun vs H Q E h => ?_) (fun cdv A outer s H vs Q E hr h => ?_)
  · obtain ⟨z, rfl, _⟩ := h
    rfl
  · obtain ⟨y, rfl, q⟩ := h
    have hu := hu_of hr
    have nd := sc_is_time.nd
    refine ⟨_, (pss_one (ps_ret (pe_cc c_within hr (by omega) (by rfl) (pa_cons (pv 0) (pa_cons pe_int (pa_cons (pe_glob (v := .int 8589934591) (by rfl) m_LT (by first | exact rfl | exact ⟨_, rfl⟩)) pa_nil)))))), ?_⟩
    walk_at "rd"
    refine sp_within ?_
    exact q
def spStamp : Sp := fun vs H Q _ => ∃ b t : Int, vs = [.int b, .int t] ∧ 0 ≤ b ∧ b ≤ 4095 ∧ 0 ≤ t ∧ t ≤ 8589934591 ∧ ∀ H', Same H H' → Q .non H'
theorem sp_stamp {b t : Int} {H : Hp} {Q : VK} {E : XK} (h0 : 0 ≤ b) (h1 : b ≤ 4095) (h2 : 0 ≤ t) (h3 : t ≤ 8589934591) (k : ∀ H', Same H H' → Q .non H') : spStamp ([.int b, .int t] ++ []) H Q E := ⟨b, t, rfl, h0, h1, h2, h3, k⟩
theorem ok_stamp {f : Addr} {fd : FuncData} {k : Nat} (F : Fun K "check_mode_and_time" "check_mode_and_time" s_check_mode_and_time f fd) (c_ismode : CalT P w K mg base 3 "is_mode" (spIn 0 4095)) (c_istime : CalT P w K mg base 3 "is_time" (spIn 0 8589934591)) : FnOk P w K mg base CX0 (k + 4) f fd ["mode", "time"] spStamp := by
  refine F.ok sc_check_mode_and_time (fun vs H Q E h => ?_) (fun cdv A outer s H vs Q E hr h => ?_)
  · obtain ⟨b, t, rfl, _⟩ := h
    rfl
  · obtain ⟨b, t, rfl, h0, h1, h2, h3, q⟩ := h
    have hu := hu_of hr
    have nd := sc_check_mode_and_time.nd
    refine ⟨_, (pss_cons (ps_if (pt_not (pt_val (pe_cc c_ismode hr (by omega) (by rfl) (pa_cons (pv 0) pa_nil))))
        (pss_one ps_never)
        pss_nil)
      (pss_one (ps_if (pt_not (pt_val (pe_cc c_istime hr (by omega) (by rfl) (pa_cons (pv 1) pa_nil))))
        (pss_one ps_never)
        pss_nil))), ?_⟩
    walk_at "rd"
    refine sp_in h0 h1 ?_
    walk_at "rd"
    refine sp_in h2 h3 ?_
    walk_at "rd"
    exact q _ (Same.refl _)
/-! ### pieces, as the program has them: a tuple of pairs of an int and bytes -/
def PcsT (H : Hp) (p : Addr) (ps : List (Int × Array UInt8)) : Prop := ∃ as : List Addr, H p = some (.tup (as.map V.ref)) ∧ Paired (fun q (s : Int × Array UInt8) => H q = some (.tup [.int s.1, .byt s.2])) as ps
def pcsOk (z : Int) (ps : List (Int × Array UInt8)) : Prop := spansOk z 0 (ps.map fun s => (s.1, (s.2.size : Int)))
theorem PcsT.same {H H' : Hp} {p : Addr} {ps : List (Int × Array UInt8)} (e : Same H H') (h : PcsT H p ps) : PcsT H' p ps := by
  obtain ⟨as, h1, h2⟩ := h
  exact ⟨as, e _ _ h1, Paired.mapP h2 fun q s z => e _ _ z⟩
def spPiece : Sp := fun vs H Q _ => ∃ (p : Addr) (o : Int) (y : Array UInt8), vs = [.ref p] ∧ H p = some (.tup [.int o, .byt y]) ∧ 0 ≤ o ∧ o ≤ 4096 ∧ Q (.bl true) H
theorem sp_piece {p : Addr} {o : Int} {y : Array UInt8} {H : Hp} {Q : VK} {E : XK} (hp : H p = some (.tup [.int o, .byt y])) (h1 : 0 ≤ o) (h2 : o ≤ 4096) (k : Q (.bl true) H) : spPiece ([.ref p] ++ []) H Q E := ⟨p, o, y, rfl, hp, h1, h2, k⟩
theorem ok_piece {f : Addr} {fd : FuncData} {k : Nat} {t1 : Tok} (F : Fun K "is_piece" "is_piece" s_is_piece f fd) (m1 : mg "isinstance" = none) (m2 : mg "tuple" = none) (m3 : mg "len" = none) (m4 : mg "bytes" = none) (m_MB : mg "MOST_BYTES" = some (.int 4096 t1)) (c_within : CalT P w K mg base 2 "is_integer_within" spWithin) :
    FnOk P w K mg base CX0 (k + 3) f fd ["thing"] spPiece := by
  refine F.ok sc_is_piece (fun vs H Q E h => ?_) (fun cdv A outer s H vs Q E hr h => ?_)
  · obtain ⟨p, o, y, rfl, _⟩ := h
    rfl
  · obtain ⟨p, o, y, rfl, hp, h1, h2, q⟩ := h
    have hu := hu_of hr
    have nd := sc_is_piece.nd
    refine ⟨_, (pss_cons (ps_if (PW.pt (pw_or (pt_not (pt_val (pe_callB (call_isiK1 K) (by rfl) (by assumption) (by decide +kernel) (pa_cons (pv 0) (pa_cons (pe_bltn (v := .ty "tuple") (by rfl) (by assumption) (by decide +kernel) rfl) pa_nil))))) (pw_or1 (pt_cmpR op_ne (pe_callB (call_lenK K) (by rfl) (by assumption) (by decide +kernel) (pa_cons (pv 0) pa_nil)) pe_int (nomark _)))))
        (pss_one (ps_ret pe_bl))
        pss_nil)
      (pss_one (ps_ret (pe_and (pe_cc c_within hr (by omega) (by rfl) (pa_cons (pe_ix (ix_tupK K) (pv 0) pe_int (fun _ _ => rfl)) (pa_cons pe_int (pa_cons (pe_glob (v := .int 4096) (by rfl) m_MB (by first | exact rfl | exact ⟨_, rfl⟩)) pa_nil)))) (pe_one (pe_callB (call_isiK1 K) (by rfl) (by assumption) (by decide +kernel) (pa_cons (pe_ix (ix_tupK K) (pv 0) pe_int (fun _ _ => rfl)) (pa_cons (pe_bltn (v := .ty "bytes") (by rfl) (by assumption) (by decide +kernel) rfl) pa_nil)))))))), ?_⟩
    walk_at "rd"
    refine sp_within ?_
    rw [decide_eq_true h1, decide_eq_true h2, Bool.true_and]
    walk_at "rd"
    exact q
/-! ### spans: a list of pairs of ints -/
def SpnL (H : Hp) (p : Addr) (sp : List (Int × Int)) : Prop := ∃ as : List Addr, H p = some (.lst (as.map V.ref)) ∧ Paired (fun q (s : Int × Int) => H q = some (.tup [.int s.1, .int s.2])) as sp
def spASpans : Sp := fun vs H Q _ => ∃ (z : Int) (p : Addr) (sp : List (Int × Int)), vs = [.int z, .ref p] ∧ SpnL H p sp ∧ spansOk z 0 sp ∧ z ≤ 4096 ∧ sp.length ≤ 50 ∧ ∀ H', Same H H' → Q (.bl true) H'
theorem sp_aspans {z : Int} {p : Addr} {sp : List (Int × Int)} {H : Hp} {Q : VK} {E : XK} (hp : SpnL H p sp) (h1 : spansOk z 0 sp) (h2 : z ≤ 4096) (h3 : sp.length ≤ 50) (k : ∀ H', Same H H' → Q (.bl true) H') : spASpans ([.int z, .ref p] ++ []) H Q E := ⟨z, p, sp, rfl, hp, h1, h2, h3, k⟩
theorem ok_aspans {f : Addr} {fd : FuncData} {k : Nat} {t1 : Tok} (F : Fun K "are_spans" "are_spans" s_are_spans f fd) (m3 : mg "len" = none) (m_MP : mg "MOST_PIECES" = some (.int 50 t1)) : FnOk P w K mg base CX0 (k + 2) f fd ["size", "spans"] spASpans := by
  refine F.ok sc_are_spans (fun vs H Q E h => ?_) (fun cdv A outer s H vs Q E hr h => ?_)
  · obtain ⟨z, p, ps, rfl, _⟩ := h
    rfl
  · obtain ⟨z, p, ps, rfl, ⟨as, hp, hpd⟩, hok, hz, hn, q⟩ := h
    have hu := hu_of hr
    have nd := sc_are_spans.nd
    have hlen : (as.map V.ref).length = ps.length := by rw [List.length_map]; exact hpd.length
    refine ⟨_, (pss_cons (ps_if (pt_cmpR op_gt (pe_callB (call_lenK K) (by rfl) (by assumption) (by decide +kernel) (pa_cons (pv 1) pa_nil)) (pe_glob (v := .int 50) (by rfl) m_MP (by first | exact rfl | exact ⟨_, rfl⟩)) (nomark _))
        (pss_one (ps_ret pe_bl))
        pss_nil)
      (pss_cons (ps_set (i := 2) nd rfl (Or.inl rfl) pe_int)
      (pss_cons (ps_for PassesOwn.never rfl (pi_list (pv 1)) (pg_tupK K (pg_tup rfl (pgs_cons (pg_name (i := 3) nd rfl (Or.inl rfl)) (pgs_cons (pg_name (i := 4) nd rfl (Or.inl rfl)) pgs_nil))))
        (pss_cons (ps_if (PW.pt (pw_or (pt_cmpR op_lt (pv 3) (pv 2) (nomark _)) (pw_or (pt_cmpR op_lt (pv 4) pe_int (nomark _)) (pw_or1 (pt_cmpR op_gt (pe_op op_add (pv 3) (pv 4)) (pv 0) (nomark _))))))
        (pss_one (ps_ret pe_bl))
        pss_nil)
      (pss_one (ps_set (i := 2) nd rfl (Or.inl rfl) (pe_op op_add (pe_op op_add (pv 3) (pv 4)) pe_int)))))
      (pss_one (ps_ret pe_bl))))), ?_⟩
    walk_at "rd"
    refine r_iteD (fun h => absurd h (by omega)) (fun _ => ?_)
    walk_at "rd"
    refine for_it (walk_list (xs := as.map V.ref)) (fun i σ H' => ∃ (l : Int) (v1 v2 : Option V), σ = [some (.int z), some (.ref p), some (.int l), v1, v2] ∧ Same H H' ∧ 0 ≤ l ∧ spansOk z l (ps.drop i)) ?_ (fun i σ H' _ ⟨_, _, _, _, e, _⟩ => SqL.of (e _ _ hp)) ?_ ?_
    · exact ⟨0, _, _, rfl, Same.refl _, Int.le_refl 0, hok⟩
    · rintro i x σ Hc H' hi ⟨l, v1, v2, rfl, e, hl, hs⟩ ⟨rfl, hx⟩
      rw [List.getElem?_map] at hx
      obtain ⟨qa, hqa, rfl⟩ : ∃ qa, as[i]? = some qa ∧ V.ref qa = x := by
        cases e : as[i]? with
        | none => rw [e] at hx; cases hx
        | some qa => rw [e] at hx; exact ⟨qa, rfl, Option.some.inj hx⟩
      obtain ⟨s, hsi, hqt⟩ := paired_at hpd hqa
      have hq' := e _ _ hqt
      have hdrop : ps.drop i = s :: ps.drop (i + 1) := by
        obtain ⟨hlt, hge⟩ := List.getElem?_eq_some_iff.mp hsi
        rw [← hge]
        exact List.drop_eq_getElem_cons hlt
      rw [hdrop] at hs
      obtain ⟨g1, g2, g3, g4⟩ := hs
      have g1' : l ≤ s.1 := g1
      have g2' : 1 ≤ s.2 := g2
      have g3' : s.1 + s.2 ≤ z := g3
      walk_at "rd"
      refine r_iteD (fun h => absurd h (by omega)) (fun _ => ?_)
      walk_at "rd"
      refine r_iteD (fun h => absurd h (by omega)) (fun _ => ?_)
      walk_at "rd"
      refine r_iteD (fun h => absurd h (by omega)) (fun _ => ?_)
      walk_at "rd"
      exact ⟨_, _, _, rfl, e, by omega, g4⟩
    · rintro σ Hc ⟨l, v1, v2, rfl, e, _⟩
      walk_at "rd"
      exact q _ e
def spAPieces : Sp := fun vs H Q _ => ∃ (z : Int) (p : Addr) (ps : List (Int × Array UInt8)), vs = [.int z, .ref p] ∧ PcsT H p ps ∧ pcsOk z ps ∧ z ≤ 4096 ∧ ps.length ≤ 50 ∧ ∀ H', Same H H' → Q (.bl true) H'
theorem sp_apieces {z : Int} {p : Addr} {ps : List (Int × Array UInt8)} {H : Hp} {Q : VK} {E : XK} (hp : PcsT H p ps) (h1 : pcsOk z ps) (h2 : z ≤ 4096) (h3 : ps.length ≤ 50) (k : ∀ H', Same H H' → Q (.bl true) H') : spAPieces ([.int z, .ref p] ++ []) H Q E := ⟨z, p, ps, rfl, hp, h1, h2, h3, k⟩
theorem ok_apieces {f : Addr} {fd : FuncData} {k : Nat} (F : Fun K "are_pieces" "are_pieces" s_are_pieces f fd) (m3 : mg "len" = none) (m4 : mg "all" = none) (c_piece : CalT P w K mg base 3 "is_piece" spPiece) (c_aspans : CalT P w K mg base 2 "are_spans" spASpans) :
    FnOk P w K mg base CX0 (k + 4) f fd ["size", "pieces"] spAPieces := by
  refine F.ok sc_are_pieces (fun vs H Q E h => ?_) (fun cdv A outer s H vs Q E hr h => ?_)
  · obtain ⟨z, p, ps, rfl, _⟩ := h
    rfl
  · obtain ⟨z, p, ps, rfl, ⟨as, hp, hpd⟩, hok, hz, hn, q⟩ := h
    have hu := hu_of hr
    have nd := sc_are_pieces.nd
    have hal : as.length = ps.length := hpd.length
    have hall : ∀ s ∈ ps, 0 ≤ s.1 ∧ 1 ≤ (s.2.size : Int) ∧ s.1 + (s.2.size : Int) ≤ z := fun s hs => spansOk_all (Int.le_refl 0) hok (s.1, (s.2.size : Int)) (List.mem_map.mpr ⟨s, hs, rfl⟩)
    refine ⟨_, (pss_cons (ps_if (pt_not (pt_val (pe_callB (call_allK K) (by rfl) (by assumption) (by decide +kernel) (pa_cons (pe_lc (own := [("piece", 4)]) (g := (gName 4)) (tt := tYes) rfl nd (pi_tup (pv 1)) (blkOk_by (N := N_are_pieces) (sc := defScope s_are_pieces) (by decide +kernel)) (fun _ _ _ _ _ => (pg_name (i := 4) nd rfl (Or.inl rfl))) (fun _ _ _ _ _ => pts_nil) (fun _ _ _ _ _ => (pe_cc c_piece hr (by omega) (by rfl) (pa_cons (pv 4) pa_nil)))) pa_nil))))
        (pss_one (ps_ret pe_bl))
        pss_nil)
      (pss_one (ps_ret (pe_cc c_aspans hr (by omega) (by rfl) (pa_cons (pv 0) (pa_cons (pe_lc (own := [("offset", 2), ("data", 3)]) (g := (gTup K 2 (gCons (gName 2) (gCons (gName 3) gNil)))) (tt := tYes) rfl nd (pi_tup (pv 1)) (blkOk_by (N := N_are_pieces) (sc := defScope s_are_pieces) (by decide +kernel)) (fun _ _ _ _ _ => (pg_tupK K (pg_tup rfl (pgs_cons (pg_name (i := 2) nd rfl (Or.inl rfl)) (pgs_cons (pg_name (i := 3) nd rfl (Or.inl rfl)) pgs_nil))))) (fun _ _ _ _ _ => pts_nil) (fun _ _ _ _ _ => (pe_tup (pa_cons (pv 2) (pa_cons (pe_callB call_rLenY (by rfl) (by assumption) (by decide +kernel) (pa_cons (pv 3) pa_nil)) pa_nil))))) pa_nil)))))), ?_⟩
    walk_at "rd"
    intro D hD
    refine lc_it (walk_tup (xs := as.map V.ref)) (fun i H' => Same H H' ∧ H' D = some (.lst ((List.replicate i true).map V.bl))) ⟨same_new hD, upd_same⟩ (fun i H' _ ⟨e, _⟩ => SqT.of (e _ _ hp)) ?_ ?_
    · rintro i x Hc H' hi ⟨e, hb⟩ ⟨rfl, hx⟩
      rw [List.getElem?_map] at hx
      obtain ⟨qa, hqa, rfl⟩ : ∃ qa, as[i]? = some qa ∧ V.ref qa = x := by
        cases e : as[i]? with
        | none => rw [e] at hx; cases hx
        | some qa => rw [e] at hx; exact ⟨qa, rfl, Option.some.inj hx⟩
      obtain ⟨s, hsi, hqt⟩ := paired_at hpd hqa
      have hq' := e _ _ hqt
      obtain ⟨a1, a2, a3⟩ := hall s (List.mem_of_getElem? hsi)
      rw [List.length_map] at hi
      walk_at "rd"
      refine ⟨rfl, ?_⟩
      unfold tYes
      dsimp only
      rw [if_pos rfl]
      walk_at "rd"
      refine sp_piece hq' a1 (by omega) ?_
      refine ⟨_, hb, ?_, fun b o eo => ?_, ?_⟩
      · rw [List.length_map, List.length_replicate]
        exact Nat.lt_of_lt_of_le (by omega : i < 51) (by decide)
      · rw [upd_ne (ne_of_none eo hD)]
        exact e _ _ eo
      · rw [upd_same, List.replicate_succ', List.map_append]
        rfl
    · rintro H1 ⟨e, hb⟩
      refine r_nil ?_
      refine r_all (bs := List.replicate (as.map V.ref).length true) (SqL.of hb) ?_
      rw [show (List.replicate (as.map V.ref).length true).all id = true from by simp [List.all_replicate]]
      have hp1 := e _ _ hp
      walk_at "rd"
      intro D2 hD2
      refine lc_it (walk_tup (xs := as.map V.ref)) (fun i H' => Same H1 H' ∧ ∃ bs : List Addr, H' D2 = some (.lst (bs.map V.ref)) ∧ Paired (fun q (s : Int × Array UInt8) => q ≠ D2 ∧ H' q = some (.tup [.int s.1, .int (s.2.size : Int)])) bs (ps.take i)) ?_ (fun i H' _ ⟨e', _⟩ => SqT.of (e' _ _ hp1)) ?_ ?_
      · exact ⟨same_new hD2, [], upd_same, .nil⟩
      · rintro i x Hc H' hi ⟨e', bs, hb', hbp⟩ ⟨rfl, hx⟩
        rw [List.getElem?_map] at hx
        obtain ⟨qa, hqa, rfl⟩ : ∃ qa, as[i]? = some qa ∧ V.ref qa = x := by
          cases e : as[i]? with
          | none => rw [e] at hx; cases hx
          | some qa => rw [e] at hx; exact ⟨qa, rfl, Option.some.inj hx⟩
        obtain ⟨s, hsi, hqt⟩ := paired_at hpd hqa
        have hq' := e' _ _ (e _ _ hqt)
        obtain ⟨a1, a2, a3⟩ := hall s (List.mem_of_getElem? hsi)
        have hy : s.2.size ≤ 100000 := by omega
        walk_at "rd"
        refine ⟨rfl, ?_⟩
        unfold tYes
        dsimp only
        rw [if_pos rfl]
        walk_at "rd"
        rename_i T hT
        have nTD : T ≠ D2 := (ne_of_none hb' hT).symm
        have hbl : (bs.map V.ref).length ≤ 50 := by
          rw [List.length_map, hbp.length, List.length_take]
          omega
        refine ⟨_, upd_old hT hb', Nat.lt_of_le_of_lt hbl (by decide), fun b o eo => ?_, bs ++ [T], by rw [upd_same, List.map_append]; rfl, ?_⟩
        · have h2 := e' _ _ eo
          rw [upd_ne (ne_of_none eo hD2), upd_ne (ne_of_none h2 hT)]
          exact h2
        · rw [take_snoc hsi]
          refine paired_snoc (Paired.mapP hbp fun y s ⟨n1, g1⟩ => ⟨n1, ?_⟩) ⟨nTD, ?_⟩
          · rw [upd_ne n1, upd_ne (ne_of_none g1 hT)]
            exact g1
          · rw [upd_ne nTD, upd_same]
      · rintro H2 ⟨e', bs, hb', hbp⟩
        rw [List.length_map, hal, List.take_length] at hbp
        refine r_nil ?_
        refine sp_aspans (sp := ps.map fun s => (s.1, (s.2.size : Int))) ⟨bs, hb', paired_mapR (Paired.mapP hbp fun y s ⟨_, g1⟩ => g1)⟩ hok hz (by rw [List.length_map]; exact hn) (fun H3 e3 => ?_)
        walk_at "rd"
        exact q _ ((e.trans e').trans e3)
def spCPieces : Sp := fun vs H Q _ => ∃ (z : Int) (p : Addr) (ps : List (Int × Array UInt8)), vs = [.int z, .ref p] ∧ PcsT H p ps ∧ pcsOk z ps ∧ 0 ≤ z ∧ z ≤ 4096 ∧ ps.length ≤ 50 ∧ ∀ H', Same H H' → Q .non H'
theorem sp_cpieces {z : Int} {p : Addr} {ps : List (Int × Array UInt8)} {H : Hp} {Q : VK} {E : XK} (hp : PcsT H p ps) (h1 : pcsOk z ps) (h0 : 0 ≤ z) (h2 : z ≤ 4096) (h3 : ps.length ≤ 50) (k : ∀ H', Same H H' → Q .non H') : spCPieces ([.int z, .ref p] ++ []) H Q E := ⟨z, p, ps, rfl, hp, h1, h0, h2, h3, k⟩
theorem ok_cpieces {f : Addr} {fd : FuncData} {k : Nat} (F : Fun K "check_pieces" "check_pieces" s_check_pieces f fd) (c_issize : CalT P w K mg base 3 "is_size" (spIn 0 4096)) (c_apieces : CalT P w K mg base 4 "are_pieces" spAPieces) :
    FnOk P w K mg base CX0 (k + 5) f fd ["size", "pieces"] spCPieces := by
  refine F.ok sc_check_pieces (fun vs H Q E h => ?_) (fun cdv A outer s H vs Q E hr h => ?_)
  · obtain ⟨z, p, ps, rfl, _⟩ := h
    rfl
  · obtain ⟨z, p, ps, rfl, hp, hok, h0, h1, hn, q⟩ := h
    have hu := hu_of hr
    have nd := sc_check_pieces.nd
    refine ⟨_, (pss_cons (ps_if (pt_not (pt_val (pe_cc c_issize hr (by omega) (by rfl) (pa_cons (pv 0) pa_nil))))
        (pss_one ps_never)
        pss_nil)
      (pss_one (ps_if (pt_not (pt_val (pe_cc c_apieces hr (by omega) (by rfl) (pa_cons (pv 0) (pa_cons (pv 1) pa_nil)))))
        (pss_one ps_never)
        pss_nil))), ?_⟩
    walk_at "rd"
    refine sp_in h0 h1 ?_
    walk_at "rd"
    refine sp_apieces hp hok h1 hn (fun H1 e1 => ?_)
    walk_at "rd"
    exact q _ e1
end
end Th
namespace Th
open PySem PySem.Spec PyProof.Rows L2
local macro_rules | `(tactic| walk_at "lk") => `(tactic| first
  | assumption
  | exact upd_same
  | (refine upd_old (by assumption) ?_; walk_at "lk")
  | (refine upd_diff (by assumption) ?_; walk_at "lk")
  | (refine upd_diff (Ne.symm (by assumption)) ?_; walk_at "lk"))
local macro_rules | `(tactic| walk_at "cnd") => `(tactic| first
  | omega
  | (refine ⟨by omega, by omega⟩)
  | (refine ⟨by omega, by omega, by omega⟩)
  | (refine .inl ⟨by omega, by omega⟩)
  | (refine .inr ⟨by omega, by omega⟩)
  | (exact (show CPow _ _ from ⟨by decide, by decide, by omega⟩))
  | decide +kernel
  | (unfold CMulW; decide +kernel)
  | (exact wide_div (b := 64) (by omega) (by omega) (by decide) (by decide)))
local macro_rules | `(tactic| walk_at "rd1") => `(tactic| first
  | (with_reducible refine r_seq ?_)
  | (with_reducible refine r_asg ?_)
  | (with_reducible refine r_ret ?_)
  | (with_reducible refine r_if ?_)
  | (with_reducible refine r_gname ?_)
  | ((with_reducible refine' r_var ?hv ?_); (case hv => exact rfl))
  | (with_reducible refine r_c ?_)
  | (with_reducible refine r_op ?_)
  | (with_reducible refine r_I0 ?_)
  | ((with_reducible refine r_I ?hc ?_); (case hc => walk_at "cnd"))
  | (with_reducible refine r_test ?_)
  | (with_reducible refine r_tB ?_)
  | (with_reducible refine r_bl ?_)
  | (with_reducible refine r_not ?_)
  | (with_reducible refine r_and ?_)
  | (with_reducible refine r_or ?_)
  | (with_reducible refine r_ifE ?_)
  | (with_reducible refine r_notV ?_)
  | (with_reducible refine r_andV ?_)
  | (with_reducible refine r_orV ?_)
  | (with_reducible refine r_chain ?_)
  | (with_reducible refine r_cb ?_)
  | (with_reducible refine r_call ?_)
  | (with_reducible refine r_callN ?_)
  | (with_reducible refine r_nil ?_)
  | (with_reducible refine r_cons ?_)
  | ((with_reducible refine r_lst ?_))
  | ((with_reducible refine r_tup ?_))
  | ((with_reducible refine r_new ?_ ?_); (exact Nat.le_of_ble_eq_true rfl); (intro p hp))
  | (with_reducible refine r_rInt1 ?_)
  | (with_reducible refine r_rIntB ?_)
  | (with_reducible refine r_rAbs ?_)
  | (with_reducible refine r_rMin2 ?_)
  | (with_reducible refine r_rMax2 ?_)
  | ((with_reducible refine r_rLenZ ?hz ?_); (case hz => first | assumption | exact Nat.le_of_ble_eq_true rfl | (refine Nat.le_trans ?_ (by decide : 100000 ≤ sizeLine); omega)))
  | ((with_reducible refine r_addZ ?hz ?_); (case hz => (refine Nat.le_trans ?_ (by decide : 100000 ≤ sizeLine); first | omega | (simp only [Str.length] at *; simp; omega))))
  | ((with_reducible refine r_mulZ ?hz ?h0 ?h1 ?_); (case hz => first | omega | exact Nat.le_of_ble_eq_true rfl); (case h0 => omega); (case h1 => omega))
  | ((with_reducible refine' r_rLenQ ?h1 ?_); (case h1 => first | (exact .inl (by assumption)) | (exact .inr (by assumption)) | (exact .inl (SqL.of (by walk_at "lk"))) | (exact .inr (SqT.of (by walk_at "lk")))))
  | ((with_reducible refine r_eq ?hs ?_); (case hs => exact rfl))
  | ((with_reducible refine r_ne ?hs ?_); (case hs => exact rfl))
  | (with_reducible refine r_inC ?_)
  | ((with_reducible refine' r_cat ?h1 ?h2 ?h3 ?_); (case h1 => walk_at "lk"); (case h2 => walk_at "lk"); (case h3 => exact Nat.le_of_ble_eq_true rfl); (intro p hp))
  | ((with_reducible refine' r_rep ?h1 ?h2 ?h3 ?h4 ?_); (case h1 => walk_at "lk"); (case h2 => omega); (case h3 => omega); (case h4 => exact Nat.le_of_ble_eq_true rfl); (intro p hp))
  | ((with_reducible refine' r_append ?h1 ?h2 ?_); (case h1 => walk_at "lk"); (case h2 => first | exact (show _ + 1 ≤ sizeLine from Nat.le_of_ble_eq_true rfl) | exact Nat.lt_of_le_of_lt (by omega : _ ≤ 100000) (by decide)))
  | (with_reducible refine r_bm ?_)
  | ((with_reducible refine' r_tyL ?h1 ?_); (case h1 => walk_at "lk"))
  | ((with_reducible refine' r_ixL ?h1 ?h2 ?_); (case h1 => first | assumption | exact SqL.of (by walk_at "lk")); (case h2 => exact rfl))
  | ((with_reducible refine' r_ixT ?h1 ?h2 ?_); (case h1 => first | assumption | exact SqT.of (by walk_at "lk")); (case h2 => exact rfl))
  | (with_reducible refine r_gsub ?_)
  | ((with_reducible refine' r_setL ?h1 ?h2 ?_); (case h1 => walk_at "lk"); (case h2 => exact rfl))
  | (with_reducible refine r_un ?_)
  | (with_reducible refine r_neg ?_)
  | (with_reducible refine r_iteT ?_)
  | (with_reducible refine r_iteNT ?_)
  | (with_reducible refine r_iteNF ?_)
  | (with_reducible refine r_iteF ?_)
  | (with_reducible refine r_next ?_)
  | (with_reducible refine r_drop ?_)
  | (with_reducible refine r_cont ?_)
  | (with_reducible refine r_brk ?_))
local macro_rules | `(tactic| walk_at "ty") => `(tactic| first
  | assumption
  | exact .base (.int _)
  | exact .base (.str _)
  | exact .base (.bl _)
  | exact .base .non
  | exact .byt _
  | exact .base (.lst (by walk_at "lk"))
  | exact .base (.tup (by walk_at "lk")))
local macro_rules | `(tactic| walk_at "rd2") => `(tactic| first
  | walk_at "rd1"
  | ((with_reducible refine' r_isi true ?ht ?hk ?_); (case ht => walk_at "ty"); (case hk => first | assumption | decide +kernel))
  | ((with_reducible refine' r_isi false ?ht ?hk ?_); (case ht => walk_at "ty"); (case hk => first | assumption | decide +kernel))
  | ((with_reducible refine' r_isiT2 true true ?hT ?ht ?hk ?hk2 ?_); (case hT => walk_at "lk"); (case ht => walk_at "ty"); (case hk => decide +kernel); (case hk2 => decide +kernel))
  | ((with_reducible refine' r_isiT2 true false ?hT ?ht ?hk ?hk2 ?_); (case hT => walk_at "lk"); (case ht => walk_at "ty"); (case hk => decide +kernel); (case hk2 => decide +kernel))
  | ((with_reducible refine' r_isiT2 false true ?hT ?ht ?hk ?hk2 ?_); (case hT => walk_at "lk"); (case ht => walk_at "ty"); (case hk => decide +kernel); (case hk2 => decide +kernel))
  | ((with_reducible refine' r_isiT2 false false ?hT ?ht ?hk ?hk2 ?_); (case hT => walk_at "lk"); (case ht => walk_at "ty"); (case hk => decide +kernel); (case hk2 => decide +kernel))
  | (with_reducible refine r_iteNT ?_)
  | ((show (if (!true) = true then _ else _)); refine r_iteNT ?_)
  | (with_reducible refine r_r1 ?_)
  | (with_reducible refine r_maks ?_)
  | (with_reducible refine r_sfld ?_)
  | ((with_reducible refine' r_sfldE ?h1 ?h2 ?h3 ?h4 ?_); (case h1 => walk_at "lk"); (case h2 => assumption); (case h3 => assumption); (case h4 => exact (show _ + 1 ≤ 1000 from Nat.le_of_ble_eq_true rfl)))
  | (with_reducible refine r_fld ?_)
  | (with_reducible refine r_join ?_)
  | (with_reducible refine r_jcons ?_)
  | (with_reducible refine r_jnil ?_)
  | ((with_reducible refine r_rLenY ?hz ?_); (case hz => first | assumption | (refine Nat.le_trans ?_ (by decide : 100000 ≤ sizeLine); omega)))
  | (with_reducible refine r_par ?_)
  | (with_reducible refine r_pair ?_)
  | (with_reducible refine r_par3 ?_)
  | (with_reducible refine r_trip ?_)
  | ((with_reducible refine' r_gtup ?h1 ?h2 ?_); (case h1 => first | assumption | exact SqT.of (by walk_at "lk")); (case h2 => exact rfl))
  | (with_reducible refine r_gcons ?_)
  | (with_reducible refine r_gnil ?_)
  | ((with_reducible refine' r_slL ?h1 ?_); (case h1 => first | assumption | exact SqL.of (by walk_at "lk")); (intro p hp))
  | (with_reducible refine r_iTup ?_)
  | ((with_reducible refine' r_tupE ?h1 ?_); (case h1 => first | assumption | exact SqT.of (by walk_at "lk")))
  | (with_reducible refine r_m1 ?_)
  | (with_reducible refine r_isZ ?_)
  | (with_reducible refine r_sl ?_)
  | (with_reducible refine r_noPart ?_)
  | (with_reducible refine r_part ?_)
  | (with_reducible refine r_partE ?_)
  | ((with_reducible refine r_slS ?hz ?_); (case hz => first | assumption | (refine Nat.le_trans ?_ (by decide : 100000 ≤ sizeLine); omega)))
  | ((with_reducible refine' r_inT ?h1 ?h2 ?h3 ?_); (case h1 => first | assumption | (exact SqT.of (by walk_at "lk"))); (case h2 => exact rfl); (case h3 => exact rfl))
  | ((with_reducible refine' r_inL ?h1 ?h2 ?h3 ?_); (case h1 => first | assumption | (exact SqL.of (by walk_at "lk"))); (case h2 => exact rfl); (case h3 => exact rfl))
  | (with_reducible refine r_lc ?_)
  | (with_reducible refine r_for ?_)
  | (with_reducible refine r_iStr ?_)
  | (with_reducible refine r_strE ?_)
  | (with_reducible refine r_iList ?_)
  | ((with_reducible refine' r_listE ?h1 ?_); (case h1 => first | assumption | exact SqL.of (by walk_at "lk")))
  | (with_reducible refine r_iRng1 ?_)
  | ((with_reducible refine' r_rngE ?h0 ?h1 ?_); (case h0 => first | omega | (split <;> omega)); (case h1 => first | omega | (split <;> omega))))
local macro_rules | `(tactic| walk_at "rd") => `(tactic| (repeat walk_at "rd2"))
local macro_rules | `(tactic| walk_at "st") => `(tactic| (repeat (first
  | (with_reducible refine r_gname ?_)
  | (with_reducible refine r_next ?_)
  | (with_reducible refine r_seq ?_)
  | (with_reducible refine r_asg ?_)
  | (with_reducible refine r_ret ?_)
  | (with_reducible refine r_for ?_)
  | (with_reducible refine r_iRng1 ?_)
  | (with_reducible refine r_iList ?_)
  | (with_reducible refine r_cons ?_)
  | (with_reducible refine r_par ?_)
  | (with_reducible refine r_par3 ?_))))
/-! ### the members' __init__ -/
/-- all that was there stays, but for x -/
def Frame (x : Addr) (H H' : Hp) : Prop := ∀ b o, b ≠ x → H b = some o → H' b = some o
def fileF (n : Str) (y : Array UInt8) (b t : Int) : List (Str × V) := putF "time" (.int t) (putF "mode" (.int b) (putF "data" (.byt y) (putF "name" (.str n) [])))
def dirF (n : Str) (b t : Int) : List (Str × V) := putF "time" (.int t) (putF "mode" (.int b) (putF "name" (.str n) []))
def symF (n g : Str) (b t : Int) : List (Str × V) := putF "time" (.int t) (putF "mode" (.int b) (putF "target" (.str g) (putF "name" (.str n) [])))
section
variable {P : Program} {w : World} {K : PySem.W.Frag} {mg : Str → Option Value} {base : Heap}
def spFileI (C : Addr) : Sp := fun vs H Q _ => ∃ (x dx : Addr) (n : Str) (y : Array UInt8) (b t : Int), vs = [.ref x, .str n, .byt y, .int b, .int t] ∧ H x = some (.ins C dx []) ∧ stampOk n b t ∧ y.size ≤ 4096 ∧ ∀ H', Frame x H H' → H' x = some (.ins C dx (fileF n y b t)) → Q .non H'
theorem ok_fileI {f C : Addr} {fd : FuncData} {k : Nat} (F : FunD K "__init__" "File.__init__" (defArgs s_File___init__) (defBody s_File___init__) (defScope s_File___init__) [] [("mode", .int 420), ("time", .int 0)] f fd) (hc : Cls K C)
    (a1 : NoAttr K C "name") (a2 : NoAttr K C "data") (a3 : NoAttr K C "mode") (a4 : NoAttr K C "time") (c_cname : CalT P w K mg base 3 "check_name" spCName) (c_cdata : CalT P w K mg base 3 "check_data" spCData) (c_stamp : CalT P w K mg base 4 "check_mode_and_time" spStamp) :
    FnOk P w K mg base CX0 (k + 5) f fd ["self", "name", "data", "mode", "time"] (spFileI C) := by
  refine funD_ok0 F sc_File___init__ (fun vs H Q E h => ?_) (fun cdv A outer s H vs Q E hr h => ?_)
  · obtain ⟨x, dx, n, y, b, t, rfl, _⟩ := h
    rfl
  · obtain ⟨x, dx, n, y, b, t, rfl, hx, ⟨s1, s2, s3, s4, s5⟩, hy, q⟩ := h
    have hu := hu_of hr
    have nd := sc_File___init__.nd
    refine ⟨_, (pss_cons (ps_expr (pe_cc c_cname hr (by omega) (by rfl) (pa_cons (pv 1) pa_nil)))
      (pss_cons (ps_expr (pe_cc c_cdata hr (by omega) (by rfl) (pa_cons (pv 2) pa_nil)))
      (pss_cons (ps_expr (pe_cc c_stamp hr (by omega) (by rfl) (pa_cons (pv 3) (pa_cons (pv 4) pa_nil))))
      (pss_cons (ps_fld (pv 0) (pv 1) rfl)
      (pss_cons (ps_fld (pv 0) (pv 2) rfl)
      (pss_cons (ps_fld (pv 0) (pv 3) rfl)
      (pss_one (ps_fld (pv 0) (pv 4) rfl)))))))), ?_⟩
    walk_at "rd"
    refine sp_cname s1 (fun H1 e1 => ?_)
    walk_at "rd"
    refine sp_cdata hy (fun H2 e2 => ?_)
    walk_at "rd"
    refine sp_stamp s2 s3 s4 s5 (fun H3 e3 => ?_)
    have hx3 := e3 _ _ (e2 _ _ (e1 _ _ hx))
    walk_at "rd"
    refine q _ (fun b o nb e => ?_) upd_same
    rw [upd_ne nb, upd_ne nb, upd_ne nb, upd_ne nb]
    exact e3 _ _ (e2 _ _ (e1 _ _ e))
def spDirI (C : Addr) : Sp := fun vs H Q _ => ∃ (x dx : Addr) (n : Str) (b t : Int), vs = [.ref x, .str n, .int b, .int t] ∧ H x = some (.ins C dx []) ∧ stampOk n b t ∧ ∀ H', Frame x H H' → H' x = some (.ins C dx (dirF n b t)) → Q .non H'
theorem ok_dirI {f C : Addr} {fd : FuncData} {k : Nat} (F : FunD K "__init__" "Directory.__init__" (defArgs s_Directory___init__) (defBody s_Directory___init__) (defScope s_Directory___init__) [] [("mode", .int 493), ("time", .int 0)] f fd) (hc : Cls K C)
    (a1 : NoAttr K C "name") (a3 : NoAttr K C "mode") (a4 : NoAttr K C "time") (c_cname : CalT P w K mg base 3 "check_name" spCName) (c_stamp : CalT P w K mg base 4 "check_mode_and_time" spStamp) :
    FnOk P w K mg base CX0 (k + 5) f fd ["self", "name", "mode", "time"] (spDirI C) := by
  refine funD_ok0 F sc_Directory___init__ (fun vs H Q E h => ?_) (fun cdv A outer s H vs Q E hr h => ?_)
  · obtain ⟨x, dx, n, b, t, rfl, _⟩ := h
    rfl
  · obtain ⟨x, dx, n, b, t, rfl, hx, ⟨s1, s2, s3, s4, s5⟩, q⟩ := h
    have hu := hu_of hr
    have nd := sc_Directory___init__.nd
    refine ⟨_, (pss_cons (ps_expr (pe_cc c_cname hr (by omega) (by rfl) (pa_cons (pv 1) pa_nil)))
      (pss_cons (ps_expr (pe_cc c_stamp hr (by omega) (by rfl) (pa_cons (pv 2) (pa_cons (pv 3) pa_nil))))
      (pss_cons (ps_fld (pv 0) (pv 1) rfl)
      (pss_cons (ps_fld (pv 0) (pv 2) rfl)
      (pss_one (ps_fld (pv 0) (pv 3) rfl)))))), ?_⟩
    walk_at "rd"
    refine sp_cname s1 (fun H1 e1 => ?_)
    walk_at "rd"
    refine sp_stamp s2 s3 s4 s5 (fun H3 e3 => ?_)
    have hx3 := e3 _ _ (e1 _ _ hx)
    walk_at "rd"
    refine q _ (fun b o nb e => ?_) upd_same
    rw [upd_ne nb, upd_ne nb, upd_ne nb]
    exact e3 _ _ (e1 _ _ e)
def spSymI (C : Addr) : Sp := fun vs H Q _ => ∃ (x dx : Addr) (n g : Str) (b t : Int), vs = [.ref x, .str n, .str g, .int b, .int t] ∧ H x = some (.ins C dx []) ∧ stampOk n b t ∧ nameB g = true ∧ ∀ H', Frame x H H' → H' x = some (.ins C dx (symF n g b t)) → Q .non H'
theorem ok_symI {f C : Addr} {fd : FuncData} {k : Nat} (F : FunD K "__init__" "Symlink.__init__" (defArgs s_Symlink___init__) (defBody s_Symlink___init__) (defScope s_Symlink___init__) [] [("mode", .int 511), ("time", .int 0)] f fd) (hc : Cls K C)
    (a1 : NoAttr K C "name") (a2 : NoAttr K C "target") (a3 : NoAttr K C "mode") (a4 : NoAttr K C "time") (c_cname : CalT P w K mg base 3 "check_name" spCName) (c_stamp : CalT P w K mg base 4 "check_mode_and_time" spStamp) :
    FnOk P w K mg base CX0 (k + 5) f fd ["self", "name", "target", "mode", "time"] (spSymI C) := by
  refine funD_ok0 F sc_Symlink___init__ (fun vs H Q E h => ?_) (fun cdv A outer s H vs Q E hr h => ?_)
  · obtain ⟨x, dx, n, g, b, t, rfl, _⟩ := h
    rfl
  · obtain ⟨x, dx, n, g, b, t, rfl, hx, ⟨s1, s2, s3, s4, s5⟩, hg, q⟩ := h
    have hu := hu_of hr
    have nd := sc_Symlink___init__.nd
    refine ⟨_, (pss_cons (ps_expr (pe_cc c_cname hr (by omega) (by rfl) (pa_cons (pv 1) pa_nil)))
      (pss_cons (ps_expr (pe_cc c_cname hr (by omega) (by rfl) (pa_cons (pv 2) pa_nil)))
      (pss_cons (ps_expr (pe_cc c_stamp hr (by omega) (by rfl) (pa_cons (pv 3) (pa_cons (pv 4) pa_nil))))
      (pss_cons (ps_fld (pv 0) (pv 1) rfl)
      (pss_cons (ps_fld (pv 0) (pv 2) rfl)
      (pss_cons (ps_fld (pv 0) (pv 3) rfl)
      (pss_one (ps_fld (pv 0) (pv 4) rfl)))))))), ?_⟩
    walk_at "rd"
    refine sp_cname s1 (fun H1 e1 => ?_)
    walk_at "rd"
    refine sp_cname hg (fun H2 e2 => ?_)
    walk_at "rd"
    refine sp_stamp s2 s3 s4 s5 (fun H3 e3 => ?_)
    have hx3 := e3 _ _ (e2 _ _ (e1 _ _ hx))
    walk_at "rd"
    refine q _ (fun b o nb e => ?_) upd_same
    rw [upd_ne nb, upd_ne nb, upd_ne nb, upd_ne nb]
    exact e3 _ _ (e2 _ _ (e1 _ _ e))
theorem ok_lnkI {f C : Addr} {fd : FuncData} {k : Nat} (F : FunD K "__init__" "Link.__init__" (defArgs s_Link___init__) (defBody s_Link___init__) (defScope s_Link___init__) [] [("mode", .int 420), ("time", .int 0)] f fd) (hc : Cls K C)
    (a1 : NoAttr K C "name") (a2 : NoAttr K C "target") (a3 : NoAttr K C "mode") (a4 : NoAttr K C "time") (c_cname : CalT P w K mg base 3 "check_name" spCName) (c_stamp : CalT P w K mg base 4 "check_mode_and_time" spStamp) :
    FnOk P w K mg base CX0 (k + 5) f fd ["self", "name", "target", "mode", "time"] (spSymI C) := by
  refine funD_ok0 F sc_Link___init__ (fun vs H Q E h => ?_) (fun cdv A outer s H vs Q E hr h => ?_)
  · obtain ⟨x, dx, n, g, b, t, rfl, _⟩ := h
    rfl
  · obtain ⟨x, dx, n, g, b, t, rfl, hx, ⟨s1, s2, s3, s4, s5⟩, hg, q⟩ := h
    have hu := hu_of hr
    have nd := sc_Link___init__.nd
    refine ⟨_, (pss_cons (ps_expr (pe_cc c_cname hr (by omega) (by rfl) (pa_cons (pv 1) pa_nil)))
      (pss_cons (ps_expr (pe_cc c_cname hr (by omega) (by rfl) (pa_cons (pv 2) pa_nil)))
      (pss_cons (ps_expr (pe_cc c_stamp hr (by omega) (by rfl) (pa_cons (pv 3) (pa_cons (pv 4) pa_nil))))
      (pss_cons (ps_fld (pv 0) (pv 1) rfl)
      (pss_cons (ps_fld (pv 0) (pv 2) rfl)
      (pss_cons (ps_fld (pv 0) (pv 3) rfl)
      (pss_one (ps_fld (pv 0) (pv 4) rfl)))))))), ?_⟩
    walk_at "rd"
    refine sp_cname s1 (fun H1 e1 => ?_)
    walk_at "rd"
    refine sp_cname hg (fun H2 e2 => ?_)
    walk_at "rd"
    refine sp_stamp s2 s3 s4 s5 (fun H3 e3 => ?_)
    have hx3 := e3 _ _ (e2 _ _ (e1 _ _ hx))
    walk_at "rd"
    refine q _ (fun b o nb e => ?_) upd_same
    rw [upd_ne nb, upd_ne nb, upd_ne nb, upd_ne nb]
    exact e3 _ _ (e2 _ _ (e1 _ _ e))
/-! ### Sparse: what is left over is a tuple -/
def spaF (n : Str) (z : Int) (p : Addr) (b t : Int) : List (Str × V) := putF "time" (.int t) (putF "mode" (.int b) (putF "pieces" (.ref p) (putF "size" (.int z) (putF "name" (.str n) []))))
def spSpaI (C : Addr) : Sp := fun vs H Q _ => ∃ (x dx : Addr) (n : Str) (z b t : Int) (p : Addr) (ps : List (Int × Array UInt8)), vs = [.ref x, .str n, .int z, .int b, .int t, .ref p] ∧ H x = some (.ins C dx []) ∧ stampOk n b t ∧ PcsT H p ps ∧ pcsOk z ps ∧ 0 ≤ z ∧ z ≤ 4096 ∧ ps.length ≤ 50 ∧
  ∀ H', Frame x H H' → H' x = some (.ins C dx (spaF n z p b t)) → Q .non H'
/-- the body of Sparse.__init__ -/
theorem walk_spaI {f C : Addr} {k : Nat} {cdv : Value} {A : Around} {outer : List Env} {s : Shared} {H : Hp} {vs : List V} {Q : VK} {E : XK} (hc : Cls K C)
    (a1 : NoAttr K C "name") (a2 : NoAttr K C "size") (a3 : NoAttr K C "mode") (a4 : NoAttr K C "time") (a5 : NoAttr K C "pieces") (c_cname : CalT P w K mg base 3 "check_name" spCName) (c_cpieces : CalT P w K mg base 5 "check_pieces" spCPieces) (c_stamp : CalT P w K mg base 4 "check_mode_and_time" spStamp)
    (hr : Room (k + 5) (A.deeper (envOfC "Sparse.__init__" (defScope s_Sparse___init__) s.heap.objs.size f cdv))) (h : spSpaI C vs H Q E) :
    ∃ t, PSs (cxOf CX0 P w K mg base N_Sparse___init__ "Sparse.__init__" (defScope s_Sparse___init__) f cdv A outer s H E).nox (defBody s_Sparse___init__) t ∧ t { nx := fun _ H' => Q .non H', rt := Q } (start N_Sparse___init__ vs) H := by
  obtain ⟨x, dx, n, z, b, t, p, ps, rfl, hx, ⟨s1, s2, s3, s4, s5⟩, hp, hok, z0, z1, hl, q⟩ := h
  have hu := hu_of hr
  have nd := sc_Sparse___init__.nd
  refine ⟨_, (pss_cons (ps_expr (pe_cc c_cname hr (by omega) (by rfl) (pa_cons (pv 1) pa_nil)))
      (pss_cons (ps_expr (pe_cc c_cpieces hr (by omega) (by rfl) (pa_cons (pv 2) (pa_cons (pv 5) pa_nil))))
      (pss_cons (ps_expr (pe_cc c_stamp hr (by omega) (by rfl) (pa_cons (pv 3) (pa_cons (pv 4) pa_nil))))
      (pss_cons (ps_fld (pv 0) (pv 1) rfl)
      (pss_cons (ps_fld (pv 0) (pv 2) rfl)
      (pss_cons (ps_fld (pv 0) (pv 5) rfl)
      (pss_cons (ps_fld (pv 0) (pv 3) rfl)
      (pss_one (ps_fld (pv 0) (pv 4) rfl))))))))), ?_⟩
  walk_at "rd"
  refine sp_cname s1 (fun H1 e1 => ?_)
  walk_at "rd"
  refine sp_cpieces (hp.same e1) hok z0 z1 hl (fun H2 e2 => ?_)
  walk_at "rd"
  refine sp_stamp s2 s3 s4 s5 (fun H3 e3 => ?_)
  have hx3 := e3 _ _ (e2 _ _ (e1 _ _ hx))
  walk_at "rd"
  refine q _ (fun b o nb e => ?_) upd_same
  rw [upd_ne nb, upd_ne nb, upd_ne nb, upd_ne nb, upd_ne nb]
  exact e3 _ _ (e2 _ _ (e1 _ _ e))
end
end Th
namespace Th
open PySem PySem.Spec PyProof.Rows L2
local macro_rules | `(tactic| walk_at "lk") => `(tactic| first
  | assumption
  | exact upd_same
  | (refine upd_old (by assumption) ?_; walk_at "lk")
  | (refine upd_diff (by assumption) ?_; walk_at "lk")
  | (refine upd_diff (Ne.symm (by assumption)) ?_; walk_at "lk"))
local macro_rules | `(tactic| walk_at "cnd") => `(tactic| first
  | omega
  | (refine ⟨by omega, by omega⟩)
  | (refine ⟨by omega, by omega, by omega⟩)
  | (refine .inl ⟨by omega, by omega⟩)
  | (refine .inr ⟨by omega, by omega⟩)
  | (exact (show CPow _ _ from ⟨by decide, by decide, by omega⟩))
  | decide +kernel
  | (unfold CMulW; decide +kernel)
  | (exact wide_div (b := 64) (by omega) (by omega) (by decide) (by decide)))
local macro_rules | `(tactic| walk_at "rd1") => `(tactic| first
  | (with_reducible refine r_seq ?_)
  | (with_reducible refine r_asg ?_)
  | (with_reducible refine r_ret ?_)
  | (with_reducible refine r_if ?_)
  | (with_reducible refine r_gname ?_)
  | ((with_reducible refine' r_var ?hv ?_); (case hv => exact rfl))
  | (with_reducible refine r_c ?_)
  | (with_reducible refine r_op ?_)
  | (with_reducible refine r_I0 ?_)
  | ((with_reducible refine r_I ?hc ?_); (case hc => walk_at "cnd"))
  | (with_reducible refine r_test ?_)
  | (with_reducible refine r_tB ?_)
  | (with_reducible refine r_bl ?_)
  | (with_reducible refine r_not ?_)
  | (with_reducible refine r_and ?_)
  | (with_reducible refine r_or ?_)
  | (with_reducible refine r_ifE ?_)
  | (with_reducible refine r_notV ?_)
  | (with_reducible refine r_andV ?_)
  | (with_reducible refine r_orV ?_)
  | (with_reducible refine r_chain ?_)
  | (with_reducible refine r_cb ?_)
  | (with_reducible refine r_call ?_)
  | (with_reducible refine r_callN ?_)
  | (with_reducible refine r_nil ?_)
  | (with_reducible refine r_cons ?_)
  | ((with_reducible refine r_lst ?_))
  | ((with_reducible refine r_tup ?_))
  | ((with_reducible refine r_new ?_ ?_); (exact Nat.le_of_ble_eq_true rfl); (intro p hp))
  | (with_reducible refine r_rInt1 ?_)
  | (with_reducible refine r_rIntB ?_)
  | (with_reducible refine r_rAbs ?_)
  | (with_reducible refine r_rMin2 ?_)
  | (with_reducible refine r_rMax2 ?_)
  | ((with_reducible refine r_rLenZ ?hz ?_); (case hz => first | assumption | exact Nat.le_of_ble_eq_true rfl | (refine Nat.le_trans ?_ (by decide : 100000 ≤ sizeLine); omega)))
  | ((with_reducible refine r_addZ ?hz ?_); (case hz => (refine Nat.le_trans ?_ (by decide : 100000 ≤ sizeLine); first | omega | (simp only [Str.length] at *; simp; omega))))
  | ((with_reducible refine r_mulZ ?hz ?h0 ?h1 ?_); (case hz => first | omega | exact Nat.le_of_ble_eq_true rfl); (case h0 => omega); (case h1 => omega))
  | ((with_reducible refine' r_rLenQ ?h1 ?_); (case h1 => first | (exact .inl (by assumption)) | (exact .inr (by assumption)) | (exact .inl (SqL.of (by walk_at "lk"))) | (exact .inr (SqT.of (by walk_at "lk")))))
  | ((with_reducible refine r_eq ?hs ?_); (case hs => exact rfl))
  | ((with_reducible refine r_ne ?hs ?_); (case hs => exact rfl))
  | (with_reducible refine r_inC ?_)
  | ((with_reducible refine' r_cat ?h1 ?h2 ?h3 ?_); (case h1 => walk_at "lk"); (case h2 => walk_at "lk"); (case h3 => exact Nat.le_of_ble_eq_true rfl); (intro p hp))
  | ((with_reducible refine' r_rep ?h1 ?h2 ?h3 ?h4 ?_); (case h1 => walk_at "lk"); (case h2 => omega); (case h3 => omega); (case h4 => exact Nat.le_of_ble_eq_true rfl); (intro p hp))
  | ((with_reducible refine' r_append ?h1 ?h2 ?_); (case h1 => walk_at "lk"); (case h2 => first | exact (show _ + 1 ≤ sizeLine from Nat.le_of_ble_eq_true rfl) | exact Nat.lt_of_le_of_lt (by omega : _ ≤ 100000) (by decide)))
  | (with_reducible refine r_bm ?_)
  | ((with_reducible refine' r_tyL ?h1 ?_); (case h1 => walk_at "lk"))
  | ((with_reducible refine' r_ixL ?h1 ?h2 ?_); (case h1 => first | assumption | exact SqL.of (by walk_at "lk")); (case h2 => exact rfl))
  | ((with_reducible refine' r_ixT ?h1 ?h2 ?_); (case h1 => first | assumption | exact SqT.of (by walk_at "lk")); (case h2 => exact rfl))
  | (with_reducible refine r_gsub ?_)
  | ((with_reducible refine' r_setL ?h1 ?h2 ?_); (case h1 => walk_at "lk"); (case h2 => exact rfl))
  | (with_reducible refine r_un ?_)
  | (with_reducible refine r_neg ?_)
  | (with_reducible refine r_iteT ?_)
  | (with_reducible refine r_iteNT ?_)
  | (with_reducible refine r_iteNF ?_)
  | (with_reducible refine r_iteF ?_)
  | (with_reducible refine r_next ?_)
  | (with_reducible refine r_drop ?_)
  | (with_reducible refine r_cont ?_)
  | (with_reducible refine r_brk ?_))
local macro_rules | `(tactic| walk_at "ty") => `(tactic| first
  | assumption
  | exact .base (.int _)
  | exact .base (.str _)
  | exact .base (.bl _)
  | exact .base .non
  | exact .byt _
  | exact .base (.lst (by walk_at "lk"))
  | exact .base (.tup (by walk_at "lk")))
local macro_rules | `(tactic| walk_at "rd2") => `(tactic| first
  | walk_at "rd1"
  | ((with_reducible refine' r_isi true ?ht ?hk ?_); (case ht => walk_at "ty"); (case hk => first | assumption | decide +kernel))
  | ((with_reducible refine' r_isi false ?ht ?hk ?_); (case ht => walk_at "ty"); (case hk => first | assumption | decide +kernel))
  | ((with_reducible refine' r_isiT2 true true ?hT ?ht ?hk ?hk2 ?_); (case hT => walk_at "lk"); (case ht => walk_at "ty"); (case hk => decide +kernel); (case hk2 => decide +kernel))
  | ((with_reducible refine' r_isiT2 true false ?hT ?ht ?hk ?hk2 ?_); (case hT => walk_at "lk"); (case ht => walk_at "ty"); (case hk => decide +kernel); (case hk2 => decide +kernel))
  | ((with_reducible refine' r_isiT2 false true ?hT ?ht ?hk ?hk2 ?_); (case hT => walk_at "lk"); (case ht => walk_at "ty"); (case hk => decide +kernel); (case hk2 => decide +kernel))
  | ((with_reducible refine' r_isiT2 false false ?hT ?ht ?hk ?hk2 ?_); (case hT => walk_at "lk"); (case ht => walk_at "ty"); (case hk => decide +kernel); (case hk2 => decide +kernel))
  | (with_reducible refine r_iteNT ?_)
  | ((show (if (!true) = true then _ else _)); refine r_iteNT ?_)
  | (with_reducible refine r_r1 ?_)
  | (with_reducible refine r_maks ?_)
  | (with_reducible refine r_sfld ?_)
  | ((with_reducible refine' r_sfldE ?h1 ?h2 ?h3 ?h4 ?_); (case h1 => walk_at "lk"); (case h2 => assumption); (case h3 => assumption); (case h4 => exact (show _ + 1 ≤ 1000 from Nat.le_of_ble_eq_true rfl)))
  | (with_reducible refine r_fld ?_)
  | (with_reducible refine r_join ?_)
  | (with_reducible refine r_jcons ?_)
  | (with_reducible refine r_jnil ?_)
  | ((with_reducible refine r_rLenY ?hz ?_); (case hz => first | assumption | (refine Nat.le_trans ?_ (by decide : 100000 ≤ sizeLine); omega)))
  | (with_reducible refine r_par ?_)
  | (with_reducible refine r_pair ?_)
  | (with_reducible refine r_par3 ?_)
  | (with_reducible refine r_trip ?_)
  | ((with_reducible refine' r_gtup ?h1 ?h2 ?_); (case h1 => first | assumption | exact SqT.of (by walk_at "lk")); (case h2 => exact rfl))
  | (with_reducible refine r_gcons ?_)
  | (with_reducible refine r_gnil ?_)
  | ((with_reducible refine' r_slL ?h1 ?_); (case h1 => first | assumption | exact SqL.of (by walk_at "lk")); (intro p hp))
  | (with_reducible refine r_iTup ?_)
  | ((with_reducible refine' r_tupE ?h1 ?_); (case h1 => first | assumption | exact SqT.of (by walk_at "lk")))
  | (with_reducible refine r_m1 ?_)
  | (with_reducible refine r_isZ ?_)
  | (with_reducible refine r_sl ?_)
  | (with_reducible refine r_noPart ?_)
  | (with_reducible refine r_part ?_)
  | (with_reducible refine r_partE ?_)
  | ((with_reducible refine r_slS ?hz ?_); (case hz => first | assumption | (refine Nat.le_trans ?_ (by decide : 100000 ≤ sizeLine); omega)))
  | ((with_reducible refine' r_inT ?h1 ?h2 ?h3 ?_); (case h1 => first | assumption | (exact SqT.of (by walk_at "lk"))); (case h2 => exact rfl); (case h3 => exact rfl))
  | ((with_reducible refine' r_inL ?h1 ?h2 ?h3 ?_); (case h1 => first | assumption | (exact SqL.of (by walk_at "lk"))); (case h2 => exact rfl); (case h3 => exact rfl))
  | (with_reducible refine r_lc ?_)
  | (with_reducible refine r_for ?_)
  | (with_reducible refine r_iStr ?_)
  | (with_reducible refine r_strE ?_)
  | (with_reducible refine r_iList ?_)
  | ((with_reducible refine' r_listE ?h1 ?_); (case h1 => first | assumption | exact SqL.of (by walk_at "lk")))
  | (with_reducible refine r_iRng1 ?_)
  | ((with_reducible refine' r_rngE ?h0 ?h1 ?_); (case h0 => first | omega | (split <;> omega)); (case h1 => first | omega | (split <;> omega))))
local macro_rules | `(tactic| walk_at "rd") => `(tactic| (repeat walk_at "rd2"))
local macro_rules | `(tactic| walk_at "st") => `(tactic| (repeat (first
  | (with_reducible refine r_gname ?_)
  | (with_reducible refine r_next ?_)
  | (with_reducible refine r_seq ?_)
  | (with_reducible refine r_asg ?_)
  | (with_reducible refine r_ret ?_)
  | (with_reducible refine r_for ?_)
  | (with_reducible refine r_iRng1 ?_)
  | (with_reducible refine r_iList ?_)
  | (with_reducible refine r_cons ?_)
  | (with_reducible refine r_par ?_)
  | (with_reducible refine r_par3 ?_))))
/-! ### a call that binds a rest and keyword-only parameters -/
/-- a look through the keyword-only defaults, one name behind another, that goes on as fin -/
def Chn {α : Type} (D : Addr) (fin : Sem α) : List (Str × Value) → Sem α → Prop
  | [], t => t = fin
  | q :: l, t => ∃ (β γ : Type) (x : Option Value → Sem β) (y : β → Sem γ) (z : γ → Sem α) (b : β), (t = ((nsGet D q.1 >>= x) >>= y) >>= z) ∧ (x (some q.2) = pure b) ∧ Chn D fin l (y b >>= z)
theorem chn_wp {α : Type} {K : PySem.W.Frag} {M : Model} {A : Around} {s : Shared} {D : Addr} {fin : Sem α} {Q : α → Shared → Prop} {E : Value → Shared → Prop} (X : K.In s.heap) (hf : wpAny M A fin Q E s) :
    ∀ {l : List (Str × Value)} {t : Sem α}, (∀ q ∈ l, PySem.W.nsIn K D q.1 = some (some q.2)) → Chn D fin l t → wpAny M A t Q E s
  | [], t, _, c => by
    have c' : t = fin := c
    rw [c']
    exact hf
  | q :: l, t, h, c => by
    obtain ⟨β, γ, x, y, z, b, rfl, hx, hc⟩ := c
    have look : PySem.W.Looks M s.heap (nsGet D q.1 >>= x) b := (PySem.W.looks_nsIn X (h q (List.mem_cons_self ..))).andThen (PySem.W.Looks.of_pure hx)
    have rest := chn_wp X hf (fun p hp => h p (List.mem_cons_of_mem _ hp)) hc
    rw [bind_assoc]
    exact wpAny_bind (look.here rest)
/-- a def's promise by the positional values and the keywords' values -/
def FnS (P : Program) (w : World) (K : PySem.W.Frag) (mg : Str → Option Value) (base : Heap) (k : Nat) (f : Addr) (ks : List Str) (sp : List V → List V → Hp → VK → Prop) : Prop :=
  ∀ (A : Around) (outer : List Env) (s : Shared) (H : Hp) (us ws : List Value) (vs zs : List V) (Q : VK) (E : XK), Room k A → Env0 P w K mg base A outer s H → Vals vs us → Vals zs ws → ws.length = ks.length → sp vs zs H Q →
    codeAny (model P w) A (.call (.ref f) ⟨us, ks.zip ws⟩) (CR CX0 outer P w H s Q E) s
/-- what a Sparse is made of: the name, the size, the pieces that follow -/
def spSpa (C : Addr) (b t : Int) (vs : List V) (H : Hp) (Q : VK) : Prop := ∃ (x dx : Addr) (n : Str) (z : Int) (as : List Addr) (ps : List (Int × Array UInt8)), vs = .ref x :: .str n :: .int z :: as.map V.ref ∧ H x = some (.ins C dx []) ∧ stampOk n b t ∧
  Paired (fun q (s : Int × Array UInt8) => H q = some (.tup [.int s.1, .byt s.2])) as ps ∧ pcsOk z ps ∧ 0 ≤ z ∧ z ≤ 4096 ∧ ps.length ≤ 50 ∧
  ∀ p H', H p = none → Frame x H H' → H' p = some (.tup (as.map V.ref)) → H' x = some (.ins C dx (spaF n z p b t)) → Q .non H'
section
variable {P : Program} {w : World} {K : PySem.W.Frag} {mg : Str → Option Value} {base : Heap}
/-- the tuple of the rest is laid, then the body runs -/
theorem run_spa {f C : Addr} {k : Nat} {oc : Value} {od an : Option Addr} {dV kV doc pm cdv ct : Value} {osl : Array (Option Value)} {A : Around} {outer : List Env} {s : Shared} {H : Hp} {args : Args} {Q : VK} {E : XK} {b t : Int} {vs : List V} {ux un uz ub ut : Value} {us : List Value}
    (lk : K.lookup f = some ⟨oc, od, .func (PySem.W.fnOf "__init__" "Sparse.__init__" (defArgs s_Sparse___init__) (defBody s_Sparse___init__) (defScope s_Sparse___init__) dV kV doc pm an cdv ct), osl⟩) (hcd : PySem.W.codeIn K cdv "Sparse.__init__" = true)
    (hc : Cls K C) (a1 : NoAttr K C "name") (a2 : NoAttr K C "size") (a3 : NoAttr K C "mode") (a4 : NoAttr K C "time") (a5 : NoAttr K C "pieces") (c_cname : CalT P w K mg base 3 "check_name" spCName) (c_cpieces : CalT P w K mg base 5 "check_pieces" spCPieces) (c_stamp : CalT P w K mg base 4 "check_mode_and_time" spStamp)
    (hr : Room (k + 6) A) (e0 : Env0 P w K mg base A outer s H) (rv : Vals vs (ux :: un :: uz :: us)) (rb : RelV (.int b) ub) (rt : RelV (.int t) ut) (h : spSpa C b t vs H Q)
    (bound : ∀ (M : Model) (A' : Around) (Ex : Value → Shared → Prop) (Q' : List (Str × Value) → Shared → Prop), wpAny M A' (newTuple us >>= fun tp => pure ([("self", ux), ("name", un), ("size", uz), ("mode", ub), ("time", ut), ("pieces", tp)] : List (Str × Value))) Q' Ex s →
      wpAny M A' (bindArgs (PySem.W.fnOf "__init__" "Sparse.__init__" (defArgs s_Sparse___init__) (defBody s_Sparse___init__) (defScope s_Sparse___init__) dV kV doc pm an cdv ct) args) Q' Ex s) :
    codeAny (model P w) A (.call (.ref f) args) (CR CX0 outer P w H s Q E) s := by
  obtain ⟨x, dx, n, z, as, ps, rfl, hx, st, hpd, hok, z0, z1, hl, q⟩ := h
  obtain ⟨r1, r2, r3, r4⟩ : RelV (.ref x) ux ∧ RelV (.str n) un ∧ RelV (.int z) uz ∧ Vals (as.map V.ref) us := by
    cases rv with
    | cons r1 rv => cases rv with
      | cons r2 rv => cases rv with
        | cons r3 rv => exact ⟨r1, r2, r3, rv⟩
  have hsz : (as.map V.ref).length ≤ sizeLine := by rw [List.length_map, hpd.length]; exact Nat.le_trans hl (by decide)
  have hus : us.length ≤ sizeLine := by rw [← r4.length]; exact hsz
  have fresh : H s.heap.objs.size = none := e0.hok.fresh (Nat.le_refl _)
  refine StX.run_bnd lk hcd sc_Sparse___init__ hr e0 (G := fun xs H2 => ∃ p, H p = none ∧ xs = [.ref x, .str n, .int z, .int b, .int t, .ref p] ∧ H2 = upd H p (.tup (as.map V.ref))) ?_ ?_
  · intro A' Ex Q' hq
    refine bound _ A' Ex Q' (wpAny_bind (wpAny_newTuple (wpAny_pure ?_) hus))
    have laid : ObjOk P w (upd H s.heap.objs.size (.tup (as.map V.ref))) (s.heap.push { cls := .type "tuple", data := .seq us.toArray }) s.heap.objs.size (.tup (as.map V.ref)) :=
      ⟨hsz, us, r4, _, Heap.get?_push_size _ rfl, rfl, _, rfl⟩
    exact hq _ (upd H s.heap.objs.size (.tup (as.map V.ref))) [.ref x, .str n, .int z, .int b, .int t, .ref s.heap.objs.size] [ux, un, uz, ub, ut, .ref s.heap.objs.size] (StX.env0_laid e0 laid) (StX.un_laid fresh) rfl (fun e s' z => z)
      (.cons r1 (.cons r2 (.cons r3 (.cons rb (.cons rt (.cons rfl .nil)))))) rfl ⟨_, fresh, rfl, rfl⟩
  · rintro s2 H2 xs ⟨p, hp, rfl, rfl⟩ hr'
    have np : x ≠ p := ne_of_none hx hp
    obtain ⟨t', d, wq⟩ := walk_spaI (k := k) (E := E) (Q := Q) (outer := outer) (s := s2) (A := A) (f := f) (cdv := cdv) hc a1 a2 a3 a4 a5 c_cname c_cpieces c_stamp hr' (vs := [.ref x, .str n, .int z, .int b, .int t, .ref p]) (H := upd H p (.tup (as.map V.ref)))
      ⟨x, dx, n, z, b, t, p, ps, rfl, upd_old hp hx, st, ⟨as, upd_same, Paired.mapP hpd fun q s g => upd_old hp g⟩, hok, z0, z1, hl, fun H' fr hx' => q p H' hp (fun c o nc e => fr c o nc (upd_old hp e)) (fr p _ np.symm upd_same) hx'⟩
    exact ⟨t', d.nox, wq⟩
theorem ok_spaK {f C : Addr} {fd : FuncData} {k : Nat} (F : FunD K "__init__" "Sparse.__init__" (defArgs s_Sparse___init__) (defBody s_Sparse___init__) (defScope s_Sparse___init__) [] [("mode", .int 420), ("time", .int 0)] f fd) (hc : Cls K C)
    (a1 : NoAttr K C "name") (a2 : NoAttr K C "size") (a3 : NoAttr K C "mode") (a4 : NoAttr K C "time") (a5 : NoAttr K C "pieces") (c_cname : CalT P w K mg base 3 "check_name" spCName) (c_cpieces : CalT P w K mg base 5 "check_pieces" spCPieces) (c_stamp : CalT P w K mg base 4 "check_mode_and_time" spStamp) :
    FnS P w K mg base (k + 6) f ["mode", "time"] (fun vs zs H Q => ∃ b t : Int, zs = [.int b, .int t] ∧ spSpa C b t vs H Q) := by
  obtain ⟨oc, od, dV, kV, doc, pm, an, cdv, ct, osl, rfl, lk, hcd, hD, hK⟩ := F.ex
  have hdV : dV = .none := by
    rcases hD with ⟨_, e⟩ | ⟨e, _⟩
    · exact e
    · exact absurd rfl e
  subst hdV
  intro A outer s H us ws vs zs Q E hr e0 rv rz hw ⟨b, t, ez, h⟩
  subst ez
  obtain ⟨ub, ut, rfl, rb, rt⟩ : ∃ ub ut, ws = [ub, ut] ∧ RelV (.int b) ub ∧ RelV (.int t) ut := by
    cases rz with
    | cons rb rz => cases rz with
      | cons rt rz => cases rz with
        | nil => exact ⟨_, _, rfl, rb, rt⟩
  have h' := h
  obtain ⟨x, dx, n, z, as, ps, ev, _⟩ := h'
  obtain ⟨ux, un, uz, ur, rfl⟩ : ∃ ux un uz ur, us = ux :: un :: uz :: ur := by
    subst ev
    cases rv with
    | cons r1 rv => cases rv with
      | cons r2 rv => cases rv with
        | cons r3 rv => exact ⟨_, _, _, _, rfl⟩
  refine run_spa lk hcd hc a1 a2 a3 a4 a5 c_cname c_cpieces c_stamp hr e0 rv rb rt h (fun M A' Ex Q' hq => ?_)
  cases ur with
  | nil => exact hq
  | cons r rs => exact hq
theorem ok_spaD {f C : Addr} {fd : FuncData} {k : Nat} (F : FunD K "__init__" "Sparse.__init__" (defArgs s_Sparse___init__) (defBody s_Sparse___init__) (defScope s_Sparse___init__) [] [("mode", .int 420), ("time", .int 0)] f fd) (hc : Cls K C)
    (a1 : NoAttr K C "name") (a2 : NoAttr K C "size") (a3 : NoAttr K C "mode") (a4 : NoAttr K C "time") (a5 : NoAttr K C "pieces") (c_cname : CalT P w K mg base 3 "check_name" spCName) (c_cpieces : CalT P w K mg base 5 "check_pieces" spCPieces) (c_stamp : CalT P w K mg base 4 "check_mode_and_time" spStamp) :
    FnS P w K mg base (k + 6) f [] (fun vs zs H Q => zs = [] ∧ spSpa C 420 0 vs H Q) := by
  obtain ⟨oc, od, dV, kV, doc, pm, an, cdv, ct, osl, rfl, lk, hcd, hD, hK⟩ := F.ex
  have hdV : dV = .none := by
    rcases hD with ⟨_, e⟩ | ⟨e, _⟩
    · exact e
    · exact absurd rfl e
  subst hdV
  rcases hK with e | ⟨D, rfl, hq⟩
  · exact absurd e (by simp)
  obtain ⟨ub, nb, rb⟩ := hq ("mode", .int 420) (by simp)
  obtain ⟨ut, nt, rt⟩ := hq ("time", .int 0) (by simp)
  intro A outer s H us ws vs zs Q E hr e0 rv rz hw ⟨ez, h⟩
  subst ez
  obtain rfl : ws = [] := by
    cases rz
    rfl
  have h' := h
  obtain ⟨x, dx, n, z, as, ps, ev, _⟩ := h'
  obtain ⟨ux, un, uz, ur, rfl⟩ : ∃ ux un uz ur, us = ux :: un :: uz :: ur := by
    subst ev
    cases rv with
    | cons r1 rv => cases rv with
      | cons r2 rv => cases rv with
        | cons r3 rv => exact ⟨_, _, _, _, rfl⟩
  have KX : K.In s.heap := e0.mod.kin.keeps fun b o e => (e0.bs b o e).1
  have hks : ∀ q ∈ [(("mode" : Str), ub), (("time" : Str), ut)], PySem.W.nsIn K D q.1 = some (some q.2) := by
    intro q hq
    simp only [List.mem_cons, List.not_mem_nil, or_false] at hq
    rcases hq with rfl | rfl
    · exact nb
    · exact nt
  refine run_spa lk hcd hc a1 a2 a3 a4 a5 c_cname c_cpieces c_stamp hr e0 rv rb rt h (fun M A' Ex Q' hq => ?_)
  refine chn_wp KX hq hks ?_
  cases ur with
  | nil => exact ⟨_, _, _, _, _, _, rfl, rfl, _, _, _, _, _, _, rfl, rfl, rfl⟩
  | cons r rs => exact ⟨_, _, _, _, _, _, rfl, rfl, _, _, _, _, _, _, rfl, rfl, rfl⟩
end
/-! ### C(e, .., k = v, ..), by such a promise of its __init__ -/
structure MakS (P : Program) (w : World) (K : PySem.W.Frag) (mg : Str → Option Value) (base : Heap) (k : Nat) (x : Str) (C : Addr) (ks : List Str) (sp : List V → List V → Hp → VK → Prop) : Prop where
  ex : ∃ f : Addr, Mk K C f ∧ FnS P w K mg base k f ks sp ∧ mg x = some (.ref C)
def tMakS (sp : List V → List V → Hp → VK → Prop) (m : Nat) (C : Addr) (t tk : TA) : TE := fun σ H Q => t σ H fun vs H1 => tk σ H1 fun zs H2 => zs.length = m ∧ ∀ x dx, H2 x = none → H2 dx = none → dx ≠ x →
  sp (.ref x :: vs) zs (upd (upd H2 dx (.own x)) x (.ins C dx [])) (fun v H3 => v = .non ∧ Q (.ref x) H3)
section
variable {X : Cx} {j k : Nat} {x : Str} {C : Addr} {ks : List Str} {sp : List V → List V → Hp → VK → Prop} {e : Expr} {es : List Expr} {kws : List Keyword} {p pos : Pos} {t tk : TA}
theorem run_mks {pins : List (Addr × Obj)} {σ : L2.St} {H : Hp} {s : Shared} {Q : VK} {f : Addr} {us ws : List Value} {vs zs : List V} (M : Mk X.K C f) (F : FnS X.prog X.w X.K X.mg X.base k f ks sp) (hr : Room (k + 1) X.A) (hx : ∀ (E : Value → Shared → Prop), True)
    (I : L2.Inv X pins σ H s) (rv : Vals vs us) (rz : Vals zs ws) (hl : zs.length = ks.length)
    (h : ∀ y dx, H y = none → H dx = none → dx ≠ y → sp (.ref y :: vs) zs (upd (upd H dx (.own y)) y (.ins C dx [])) (fun v H3 => v = .non ∧ Q (.ref y) H3)) :
    wpAny (model X.prog X.w) X.A (call (.ref C) us (ks.zip ws)) (EP X pins σ Q) X.xe s := by
  let y := s.heap.objs.size + 1
  have told := h y s.heap.objs.size (I.hok.fresh (Nat.le_succ _)) (I.hok.fresh (Nat.le_refl _)) (Nat.ne_of_lt (Nat.lt_succ_self _))
  have J := Inv.made (C := C) I
  have rv' : Vals (V.ref y :: vs) (Value.ref y :: us) := .cons rfl rv
  have ran := F _ X.stack _ _ (Value.ref y :: us) ws _ zs _ (fun _ _ _ => False) (hr.make C us (ks.zip ws)) (J.env0.make C us (ks.zip ws)) rv' rz (rz.length.symm.trans hl) told
  refine wpAny_call (make_map (f := f) I.kIn M.makes M.init (beq_iff_eq.mp M.fn) (codeAny_mono ran ?_))
  intro r s' hq
  cases r with
  | error e => exact False.elim hq
  | ok fl =>
    cases fl with
    | ret u =>
      obtain ⟨v, H', J', rel, ev, q⟩ := J.after hq
      rw [ev] at rel
      exact ⟨rel, V.ref y, H', J', rfl, q⟩
    | next => exact False.elim hq
    | brk => exact False.elim hq
    | cont => exact False.elim hq
theorem pe_mks (c : MakS X.prog X.w X.K X.mg X.base k x C ks sp) (hr : Room j X.A) (hk : k + 1 ≤ j) (hg : Gl X x) (ha : PA X (e :: es) t) (hkw : PK X kws tk)
    (hall : (backToKw pos (keywordEach kws X.env)).all (·.1.isSome) = true := by rfl) (hks : (backToKw pos (keywordEach kws X.env)).filterMap (·.1) = ks := by rfl) (hdb : (x == ("__debug__" : Str)) = false := by decide)
    (he : starEach (e :: es) X.env = (false, eval e X.env) :: starEach es X.env := by rfl) (hpl : ((backTo pos (starEach (e :: es) X.env)).any (·.1) || (backToKw pos (keywordEach kws X.env)).any (·.1.isNone)) = false := by rfl) :
    PE X (.Call (.Name x p) (e :: es) kws pos) (tMakS sp ks.length C t tk) := by
  obtain ⟨f, M, F, hm⟩ := c.ex
  constructor
  intro pins s σ H Q I h
  refine wpAny_Call_Name_kw (ld_glob I hg hm ?_ hdb)
  refine PySem.W.callWith_KW (h₀ := X.base) I.ok.mod.kin M.kp hall (thn (ha.run pos pins s σ H _ I h) ?_) hpl he
  rintro us s1 ⟨vs, H1, I1, r1, q1⟩
  refine thn (hkw.run pos pins s1 σ H1 _ I1 q1) ?_
  rintro ws s2 ⟨zs, H2, I2, rz, hl, q2⟩
  refine ⟨I2.kIn, ?_⟩
  rw [hks]
  exact run_mks M F (hr.mono hk) (fun _ => True.intro) I2 r1 rz hl q2
end
theorem r_maks {sp : List V → List V → Hp → VK → Prop} {m : Nat} {C : Addr} {t tk : TA} {σ : L2.St} {H : Hp} {Q : VK} (h : t σ H fun vs H1 => tk σ H1 fun zs H2 => zs.length = m ∧ ∀ x dx, H2 x = none → H2 dx = none → dx ≠ x →
  sp (.ref x :: vs) zs (upd (upd H2 dx (.own x)) x (.ins C dx [])) (fun v H3 => v = .non ∧ Q (.ref x) H3)) : tMakS sp m C t tk σ H Q := h
theorem fnS_of {P : Program} {w : World} {K : PySem.W.Frag} {mg : Str → Option Value} {base : Heap} {k n : Nat} {f : Addr} {fd : FuncData} {ps ks : List Str} {sp : Sp} (F : FnOk P w K mg base CX0 k f fd ps sp) (hb : KBn K fd ps n ks (fun us ws => us ++ ws) (fun us ws => us ++ ws)) :
    FnS P w K mg base k f ks (fun vs zs H Q => vs.length = n ∧ ∀ E, sp (vs ++ zs) H Q E) := by
  intro A outer s H us ws vs zs Q E hr e0 rv rz hw ⟨hn, h⟩
  have KX : K.In s.heap := e0.mod.kin.keeps fun b o e => (e0.bs b o e).1
  exact F.run A outer s H _ (us ++ ws) (vs ++ zs) Q E hr e0 (hb.to s us ws KX (by rw [← rv.length]; exact hn) hw) (hb.rel rv rz) (h E)
theorem fnS_dfl {P : Program} {w : World} {K : PySem.W.Frag} {mg : Str → Option Value} {base : Heap} {k : Nat} {f : Addr} {fd : FuncData} {ps : List Str} {sp : Sp} {dvs : List V} {ds : List Value} (F : FnOk P w K mg base CX0 k f fd ps sp) (hb : Binds K fd ps ds) (hd : Vals dvs ds) :
    FnS P w K mg base k f [] (fun vs zs H Q => zs = [] ∧ ∀ E, sp (vs ++ dvs) H Q E) := by
  intro A outer s H us ws vs zs Q E hr e0 rv rz hw ⟨hz, h⟩
  have KX : K.In s.heap := e0.mod.kin.keeps fun b o e => (e0.bs b o e).1
  subst hz
  cases rz
  have r2 := rv.append hd
  exact F.run A outer s H _ (us ++ ds) (vs ++ dvs) Q E hr e0 (hb s us KX (by rw [← r2.length]; exact F.len _ _ _ _ (h E))) r2 (h E)

end Th
namespace Th
open PySem PySem.Spec PyProof.Rows L2
local macro_rules | `(tactic| walk_at "lk") => `(tactic| first
  | assumption
  | exact upd_same
  | (refine upd_old (by assumption) ?_; walk_at "lk")
  | (refine upd_diff (by assumption) ?_; walk_at "lk")
  | (refine upd_diff (Ne.symm (by assumption)) ?_; walk_at "lk"))
local macro_rules | `(tactic| walk_at "cnd") => `(tactic| first
  | omega
  | (refine ⟨by omega, by omega⟩)
  | (refine ⟨by omega, by omega, by omega⟩)
  | (refine .inl ⟨by omega, by omega⟩)
  | (refine .inr ⟨by omega, by omega⟩)
  | (exact (show CPow _ _ from ⟨by decide, by decide, by omega⟩))
  | decide +kernel
  | (unfold CMulW; decide +kernel)
  | (exact wide_div (b := 64) (by omega) (by omega) (by decide) (by decide)))
local macro_rules | `(tactic| walk_at "rd1") => `(tactic| first
  | (with_reducible refine r_seq ?_)
  | (with_reducible refine r_asg ?_)
  | (with_reducible refine r_ret ?_)
  | (with_reducible refine r_if ?_)
  | (with_reducible refine r_gname ?_)
  | ((with_reducible refine' r_var ?hv ?_); (case hv => exact rfl))
  | (with_reducible refine r_c ?_)
  | (with_reducible refine r_op ?_)
  | (with_reducible refine r_I0 ?_)
  | ((with_reducible refine r_I ?hc ?_); (case hc => walk_at "cnd"))
  | (with_reducible refine r_test ?_)
  | (with_reducible refine r_tB ?_)
  | (with_reducible refine r_bl ?_)
  | (with_reducible refine r_not ?_)
  | (with_reducible refine r_and ?_)
  | (with_reducible refine r_or ?_)
  | (with_reducible refine r_ifE ?_)
  | (with_reducible refine r_notV ?_)
  | (with_reducible refine r_andV ?_)
  | (with_reducible refine r_orV ?_)
  | (with_reducible refine r_chain ?_)
  | (with_reducible refine r_cb ?_)
  | (with_reducible refine r_call ?_)
  | (with_reducible refine r_callN ?_)
  | (with_reducible refine r_nil ?_)
  | (with_reducible refine r_cons ?_)
  | ((with_reducible refine r_lst ?_))
  | ((with_reducible refine r_tup ?_))
  | ((with_reducible refine r_new ?_ ?_); (exact Nat.le_of_ble_eq_true rfl); (intro p hp))
  | (with_reducible refine r_rInt1 ?_)
  | (with_reducible refine r_rIntB ?_)
  | (with_reducible refine r_rAbs ?_)
  | (with_reducible refine r_rMin2 ?_)
  | (with_reducible refine r_rMax2 ?_)
  | ((with_reducible refine r_rLenZ ?hz ?_); (case hz => first | assumption | exact Nat.le_of_ble_eq_true rfl | (refine Nat.le_trans ?_ (by decide : 100000 ≤ sizeLine); omega)))
  | ((with_reducible refine r_addZ ?hz ?_); (case hz => (refine Nat.le_trans ?_ (by decide : 100000 ≤ sizeLine); first | omega | (simp only [Str.length] at *; simp; omega))))
  | ((with_reducible refine r_mulZ ?hz ?h0 ?h1 ?_); (case hz => first | omega | exact Nat.le_of_ble_eq_true rfl); (case h0 => omega); (case h1 => omega))
  | ((with_reducible refine' r_rLenQ ?h1 ?_); (case h1 => first | (exact .inl (by assumption)) | (exact .inr (by assumption)) | (exact .inl (SqL.of (by walk_at "lk"))) | (exact .inr (SqT.of (by walk_at "lk")))))
  | ((with_reducible refine r_eq ?hs ?_); (case hs => exact rfl))
  | ((with_reducible refine r_ne ?hs ?_); (case hs => exact rfl))
  | (with_reducible refine r_inC ?_)
  | ((with_reducible refine' r_cat ?h1 ?h2 ?h3 ?_); (case h1 => walk_at "lk"); (case h2 => walk_at "lk"); (case h3 => exact Nat.le_of_ble_eq_true rfl); (intro p hp))
  | ((with_reducible refine' r_rep ?h1 ?h2 ?h3 ?h4 ?_); (case h1 => walk_at "lk"); (case h2 => omega); (case h3 => omega); (case h4 => exact Nat.le_of_ble_eq_true rfl); (intro p hp))
  | ((with_reducible refine' r_append ?h1 ?h2 ?_); (case h1 => walk_at "lk"); (case h2 => first | exact (show _ + 1 ≤ sizeLine from Nat.le_of_ble_eq_true rfl) | exact Nat.lt_of_le_of_lt (by omega : _ ≤ 100000) (by decide)))
  | (with_reducible refine r_bm ?_)
  | ((with_reducible refine' r_tyL ?h1 ?_); (case h1 => walk_at "lk"))
  | ((with_reducible refine' r_ixL ?h1 ?h2 ?_); (case h1 => first | assumption | exact SqL.of (by walk_at "lk")); (case h2 => exact rfl))
  | ((with_reducible refine' r_ixT ?h1 ?h2 ?_); (case h1 => first | assumption | exact SqT.of (by walk_at "lk")); (case h2 => exact rfl))
  | (with_reducible refine r_gsub ?_)
  | ((with_reducible refine' r_setL ?h1 ?h2 ?_); (case h1 => walk_at "lk"); (case h2 => exact rfl))
  | (with_reducible refine r_un ?_)
  | (with_reducible refine r_neg ?_)
  | (with_reducible refine r_iteT ?_)
  | (with_reducible refine r_iteNT ?_)
  | (with_reducible refine r_iteNF ?_)
  | (with_reducible refine r_iteF ?_)
  | (with_reducible refine r_next ?_)
  | (with_reducible refine r_drop ?_)
  | (with_reducible refine r_cont ?_)
  | (with_reducible refine r_brk ?_))
local macro_rules | `(tactic| walk_at "ty") => `(tactic| first
  | assumption
  | exact .base (.int _)
  | exact .base (.str _)
  | exact .base (.bl _)
  | exact .base .non
  | exact .byt _
  | exact .base (.lst (by walk_at "lk"))
  | exact .base (.tup (by walk_at "lk")))
local macro_rules | `(tactic| walk_at "rd2") => `(tactic| first
  | walk_at "rd1"
  | ((with_reducible refine' r_isi true ?ht ?hk ?_); (case ht => walk_at "ty"); (case hk => first | assumption | decide +kernel))
  | ((with_reducible refine' r_isi false ?ht ?hk ?_); (case ht => walk_at "ty"); (case hk => first | assumption | decide +kernel))
  | ((with_reducible refine' r_isiT2 true true ?hT ?ht ?hk ?hk2 ?_); (case hT => walk_at "lk"); (case ht => walk_at "ty"); (case hk => decide +kernel); (case hk2 => decide +kernel))
  | ((with_reducible refine' r_isiT2 true false ?hT ?ht ?hk ?hk2 ?_); (case hT => walk_at "lk"); (case ht => walk_at "ty"); (case hk => decide +kernel); (case hk2 => decide +kernel))
  | ((with_reducible refine' r_isiT2 false true ?hT ?ht ?hk ?hk2 ?_); (case hT => walk_at "lk"); (case ht => walk_at "ty"); (case hk => decide +kernel); (case hk2 => decide +kernel))
  | ((with_reducible refine' r_isiT2 false false ?hT ?ht ?hk ?hk2 ?_); (case hT => walk_at "lk"); (case ht => walk_at "ty"); (case hk => decide +kernel); (case hk2 => decide +kernel))
  | (with_reducible refine r_iteNT ?_)
  | ((show (if (!true) = true then _ else _)); refine r_iteNT ?_)
  | (with_reducible refine r_r1 ?_)
  | (with_reducible refine r_maks ?_)
  | (with_reducible refine r_sfld ?_)
  | ((with_reducible refine' r_sfldE ?h1 ?h2 ?h3 ?h4 ?_); (case h1 => walk_at "lk"); (case h2 => assumption); (case h3 => assumption); (case h4 => exact (show _ + 1 ≤ 1000 from Nat.le_of_ble_eq_true rfl)))
  | (with_reducible refine r_fld ?_)
  | (with_reducible refine r_join ?_)
  | (with_reducible refine r_jcons ?_)
  | (with_reducible refine r_jnil ?_)
  | ((with_reducible refine r_rLenY ?hz ?_); (case hz => first | assumption | (refine Nat.le_trans ?_ (by decide : 100000 ≤ sizeLine); omega)))
  | (with_reducible refine r_par ?_)
  | (with_reducible refine r_pair ?_)
  | (with_reducible refine r_par3 ?_)
  | (with_reducible refine r_trip ?_)
  | ((with_reducible refine' r_gtup ?h1 ?h2 ?_); (case h1 => first | assumption | exact SqT.of (by walk_at "lk")); (case h2 => exact rfl))
  | (with_reducible refine r_gcons ?_)
  | (with_reducible refine r_gnil ?_)
  | ((with_reducible refine' r_slL ?h1 ?_); (case h1 => first | assumption | exact SqL.of (by walk_at "lk")); (intro p hp))
  | (with_reducible refine r_iTup ?_)
  | ((with_reducible refine' r_tupE ?h1 ?_); (case h1 => first | assumption | exact SqT.of (by walk_at "lk")))
  | (with_reducible refine r_m1 ?_)
  | (with_reducible refine r_isZ ?_)
  | (with_reducible refine r_sl ?_)
  | (with_reducible refine r_noPart ?_)
  | (with_reducible refine r_part ?_)
  | (with_reducible refine r_partE ?_)
  | ((with_reducible refine r_slS ?hz ?_); (case hz => first | assumption | (refine Nat.le_trans ?_ (by decide : 100000 ≤ sizeLine); omega)))
  | ((with_reducible refine' r_inT ?h1 ?h2 ?h3 ?_); (case h1 => first | assumption | (exact SqT.of (by walk_at "lk"))); (case h2 => exact rfl); (case h3 => exact rfl))
  | ((with_reducible refine' r_inL ?h1 ?h2 ?h3 ?_); (case h1 => first | assumption | (exact SqL.of (by walk_at "lk"))); (case h2 => exact rfl); (case h3 => exact rfl))
  | (with_reducible refine r_lc ?_)
  | (with_reducible refine r_for ?_)
  | (with_reducible refine r_iStr ?_)
  | (with_reducible refine r_strE ?_)
  | (with_reducible refine r_iList ?_)
  | ((with_reducible refine' r_listE ?h1 ?_); (case h1 => first | assumption | exact SqL.of (by walk_at "lk")))
  | (with_reducible refine r_iRng1 ?_)
  | ((with_reducible refine' r_rngE ?h0 ?h1 ?_); (case h0 => first | omega | (split <;> omega)); (case h1 => first | omega | (split <;> omega))))
local macro_rules | `(tactic| walk_at "rd") => `(tactic| (repeat walk_at "rd2"))
local macro_rules | `(tactic| walk_at "st") => `(tactic| (repeat (first
  | (with_reducible refine r_gname ?_)
  | (with_reducible refine r_next ?_)
  | (with_reducible refine r_seq ?_)
  | (with_reducible refine r_asg ?_)
  | (with_reducible refine r_ret ?_)
  | (with_reducible refine r_for ?_)
  | (with_reducible refine r_iRng1 ?_)
  | (with_reducible refine r_iList ?_)
  | (with_reducible refine r_cons ?_)
  | (with_reducible refine r_par ?_)
  | (with_reducible refine r_par3 ?_))))
/-! ### members made -/
theorem paired_map {α β γ : Type} {R : α → γ → Prop} {g : β → γ} : ∀ {xs : List α} {ys : List β}, Paired (fun x y => R x (g y)) xs ys → Paired R xs (ys.map g)
  | _, _, .nil => .nil
  | _, _, .cons r t => .cons r (paired_map t)
structure Cs where
  F : Addr
  S : Addr
  D : Addr
  Y : Addr
  L : Addr
/-- the object x is the member m -/
def Mem.Ins (c : Cs) (H : Hp) (x : Addr) : Mem → Prop
  | .file n b t ns => ∃ dx, H x = some (.ins c.F dx (fileF n (byteArr ns) b t))
  | .sparse n b t z sp => ∃ dx p, H x = some (.ins c.S dx (spaF n z p b t)) ∧ PcsT H p (sp.map fun s => (s.1, byteArr s.2))
  | .dir n b t => ∃ dx, H x = some (.ins c.D dx (dirF n b t))
  | .sym n b t g => ∃ dx, H x = some (.ins c.Y dx (symF n g b t))
  | .lnk n b t g => ∃ dx, H x = some (.ins c.L dx (symF n g b t))
theorem Mem.Ins.same {c : Cs} {H H' : Hp} {x : Addr} {m : Mem} (e : Same H H') (h : m.Ins c H x) : m.Ins c H' x := by
  cases m with
  | file n b t ns => obtain ⟨dx, h1⟩ := h; exact ⟨dx, e _ _ h1⟩
  | sparse n b t z sp => obtain ⟨dx, p, h1, h2⟩ := h; exact ⟨dx, p, e _ _ h1, h2.same e⟩
  | dir n b t => obtain ⟨dx, h1⟩ := h; exact ⟨dx, e _ _ h1⟩
  | sym n b t g => obtain ⟨dx, h1⟩ := h; exact ⟨dx, e _ _ h1⟩
  | lnk n b t g => obtain ⟨dx, h1⟩ := h; exact ⟨dx, e _ _ h1⟩
/-- a new instance and what its __init__ leaves alone -/
theorem frame_same {H H' : Hp} {x dx : Addr} {u v : HO} (hx : H x = none) (hd : H dx = none) (fr : Frame x (upd (upd H dx u) x v) H') : Same H H' := fun b o e => by
  have nx := ne_of_none e hx
  exact fr b o nx (by rw [upd_ne nx, upd_ne (ne_of_none e hd)]; exact e)
section
variable {P : Program} {w : World} {K : PySem.W.Frag} {mg : Str → Option Value} {base : Heap}
def spMade (c : Cs) : Sp := fun vs H Q _ => ∃ (p : Addr) (m : Mem), vs = [.ref p] ∧ m.At H p ∧ m.Ok ∧ ∀ x H', Same H H' → H x = none → m.Ins c H' x → Q (.ref x) H'
theorem sp_made {c : Cs} {p : Addr} {m : Mem} {H : Hp} {Q : VK} {E : XK} (h1 : m.At H p) (h2 : m.Ok) (k : ∀ x H', Same H H' → H x = none → m.Ins c H' x → Q (.ref x) H') : spMade c ([.ref p] ++ []) H Q E := ⟨p, m, rfl, h1, h2, k⟩
theorem ok_made {f : Addr} {fd : FuncData} {k : Nat} {c : Cs} (F : Fun K "_law_made" "_law_made" s__law_made f fd) (m1 : mg "len" = none) (c_blob : CalT P w K mg base 4 "blob" spBlob)
    (mk_File : MakS P w K mg base 5 "File" c.F ["mode", "time"] (fun vs zs H Q => vs.length = 3 ∧ ∀ E, spFileI c.F (vs ++ zs) H Q E)) (mk_Dir : MakS P w K mg base 5 "Directory" c.D ["mode", "time"] (fun vs zs H Q => vs.length = 2 ∧ ∀ E, spDirI c.D (vs ++ zs) H Q E))
    (mk_Sym : MakS P w K mg base 5 "Symlink" c.Y ["mode", "time"] (fun vs zs H Q => vs.length = 3 ∧ ∀ E, spSymI c.Y (vs ++ zs) H Q E)) (mk_Link : MakS P w K mg base 5 "Link" c.L ["mode", "time"] (fun vs zs H Q => vs.length = 3 ∧ ∀ E, spSymI c.L (vs ++ zs) H Q E))
    (mk_Sparse : MakS P w K mg base 6 "Sparse" c.S ["mode", "time"] (fun vs zs H Q => ∃ b t : Int, zs = [.int b, .int t] ∧ spSpa c.S b t vs H Q)) : FnOk P w K mg base CX0 (k + 8) f fd ["_law_one"] (spMade c) := by
  refine F.ok sc__law_made (fun vs H Q E h => ?_) (fun cdv A outer s H vs Q E hr h => ?_)
  · obtain ⟨p, m, rfl, _⟩ := h
    rfl
  · obtain ⟨p, m, rfl, hat, hok, q⟩ := h
    have hu := hu_of hr
    have nd := sc__law_made.nd
    refine ⟨_, (pss_cons (ps_if (pt_cmpR op_eq (pe_ix (ix_listK K) (pv 0) pe_int (fun _ _ => rfl)) pe_str (nomark _))
        (pss_one (ps_ret (pe_mks mk_File hr (by omega) (by rfl) (pa_cons (pe_ix (ix_listK K) (pv 0) pe_int (fun _ _ => rfl)) (pa_cons (pe_cc c_blob hr (by omega) (by rfl) (pa_cons (pe_ix (ix_listK K) (pv 0) pe_int (fun _ _ => rfl)) pa_nil)) pa_nil)) (pk_cons (pe_ix (ix_listK K) (pv 0) pe_int (fun _ _ => rfl)) (pk_cons (pe_ix (ix_listK K) (pv 0) pe_int (fun _ _ => rfl)) pk_nil)))))
        pss_nil)
      (pss_cons (ps_if (pt_cmpR op_eq (pe_ix (ix_listK K) (pv 0) pe_int (fun _ _ => rfl)) pe_str (nomark _))
        (pss_one (ps_ret (pe_mks mk_Dir hr (by omega) (by rfl) (pa_cons (pe_ix (ix_listK K) (pv 0) pe_int (fun _ _ => rfl)) pa_nil) (pk_cons (pe_ix (ix_listK K) (pv 0) pe_int (fun _ _ => rfl)) (pk_cons (pe_ix (ix_listK K) (pv 0) pe_int (fun _ _ => rfl)) pk_nil)))))
        pss_nil)
      (pss_cons (ps_if (pt_cmpR op_eq (pe_ix (ix_listK K) (pv 0) pe_int (fun _ _ => rfl)) pe_str (nomark _))
        (pss_one (ps_ret (pe_mks mk_Sym hr (by omega) (by rfl) (pa_cons (pe_ix (ix_listK K) (pv 0) pe_int (fun _ _ => rfl)) (pa_cons (pe_ix (ix_listK K) (pv 0) pe_int (fun _ _ => rfl)) pa_nil)) (pk_cons (pe_ix (ix_listK K) (pv 0) pe_int (fun _ _ => rfl)) (pk_cons (pe_ix (ix_listK K) (pv 0) pe_int (fun _ _ => rfl)) pk_nil)))))
        pss_nil)
      (pss_cons (ps_if (pt_cmpR op_eq (pe_ix (ix_listK K) (pv 0) pe_int (fun _ _ => rfl)) pe_str (nomark _))
        (pss_one (ps_ret (pe_mks mk_Link hr (by omega) (by rfl) (pa_cons (pe_ix (ix_listK K) (pv 0) pe_int (fun _ _ => rfl)) (pa_cons (pe_ix (ix_listK K) (pv 0) pe_int (fun _ _ => rfl)) pa_nil)) (pk_cons (pe_ix (ix_listK K) (pv 0) pe_int (fun _ _ => rfl)) (pk_cons (pe_ix (ix_listK K) (pv 0) pe_int (fun _ _ => rfl)) pk_nil)))))
        pss_nil)
      (pss_cons (ps_setLc (i := 1) (own := [("_law_begin", 2), ("_law_numbers", 3)]) (g := (gTup K 2 (gCons (gName 2) (gCons (gName 3) gNil)))) (tt := tYes) rfl nd rfl rfl (sw_true rfl rfl rfl (by decide +kernel)) (pi_list (pe_ix (ix_listK K) (pv 0) pe_int (fun _ _ => rfl))) (blkOk_by (N := N__law_made) (sc := defScope s__law_made) (by decide +kernel)) (fun _ _ _ _ _ => (pg_tupK K (pg_tup rfl (pgs_cons (pg_name (i := 2) nd rfl (Or.inl rfl)) (pgs_cons (pg_name (i := 3) nd rfl (Or.inl rfl)) pgs_nil))))) (fun _ _ _ _ _ => pts_nil) (fun _ _ _ _ _ => (pe_tup (pa_cons (pv 2) (pa_cons (pe_cc c_blob hr (by omega) (by rfl) (pa_cons (pv 3) pa_nil)) pa_nil)))))
      (pss_cons (ps_if (pt_cmpR op_eq (pe_callB (call_lenK K) (by rfl) (by assumption) (by decide +kernel) (pa_cons (pv 1) pa_nil)) pe_int (nomark _))
        (pss_one (ps_ret (pe_mks mk_Sparse hr (by omega) (by rfl) (pa_cons (pe_ix (ix_listK K) (pv 0) pe_int (fun _ _ => rfl)) (pa_cons (pe_ix (ix_listK K) (pv 0) pe_int (fun _ _ => rfl)) pa_nil)) (pk_cons (pe_ix (ix_listK K) (pv 0) pe_int (fun _ _ => rfl)) (pk_cons (pe_ix (ix_listK K) (pv 0) pe_int (fun _ _ => rfl)) pk_nil)))))
        pss_nil)
      (pss_cons (ps_if (pt_cmpR op_eq (pe_callB (call_lenK K) (by rfl) (by assumption) (by decide +kernel) (pa_cons (pv 1) pa_nil)) pe_int (nomark _))
        (pss_one (ps_ret (pe_mks mk_Sparse hr (by omega) (by rfl) (pa_cons (pe_ix (ix_listK K) (pv 0) pe_int (fun _ _ => rfl)) (pa_cons (pe_ix (ix_listK K) (pv 0) pe_int (fun _ _ => rfl)) (pa_cons (pe_ix (ix_listK K) (pv 1) pe_int (fun _ _ => rfl)) pa_nil))) (pk_cons (pe_ix (ix_listK K) (pv 0) pe_int (fun _ _ => rfl)) (pk_cons (pe_ix (ix_listK K) (pv 0) pe_int (fun _ _ => rfl)) pk_nil)))))
        pss_nil)
      (pss_cons (ps_if (pt_cmpR op_eq (pe_callB (call_lenK K) (by rfl) (by assumption) (by decide +kernel) (pa_cons (pv 1) pa_nil)) pe_int (nomark _))
        (pss_one (ps_ret (pe_mks mk_Sparse hr (by omega) (by rfl) (pa_cons (pe_ix (ix_listK K) (pv 0) pe_int (fun _ _ => rfl)) (pa_cons (pe_ix (ix_listK K) (pv 0) pe_int (fun _ _ => rfl)) (pa_cons (pe_ix (ix_listK K) (pv 1) pe_int (fun _ _ => rfl)) (pa_cons (pe_ix (ix_listK K) (pv 1) pe_int (fun _ _ => rfl)) pa_nil)))) (pk_cons (pe_ix (ix_listK K) (pv 0) pe_int (fun _ _ => rfl)) (pk_cons (pe_ix (ix_listK K) (pv 0) pe_int (fun _ _ => rfl)) pk_nil)))))
        pss_nil)
      (pss_cons (ps_if (pt_cmpR op_eq (pe_callB (call_lenK K) (by rfl) (by assumption) (by decide +kernel) (pa_cons (pv 1) pa_nil)) pe_int (nomark _))
        (pss_one (ps_ret (pe_mks mk_Sparse hr (by omega) (by rfl) (pa_cons (pe_ix (ix_listK K) (pv 0) pe_int (fun _ _ => rfl)) (pa_cons (pe_ix (ix_listK K) (pv 0) pe_int (fun _ _ => rfl)) (pa_cons (pe_ix (ix_listK K) (pv 1) pe_int (fun _ _ => rfl)) (pa_cons (pe_ix (ix_listK K) (pv 1) pe_int (fun _ _ => rfl)) (pa_cons (pe_ix (ix_listK K) (pv 1) pe_int (fun _ _ => rfl)) pa_nil))))) (pk_cons (pe_ix (ix_listK K) (pv 0) pe_int (fun _ _ => rfl)) (pk_cons (pe_ix (ix_listK K) (pv 0) pe_int (fun _ _ => rfl)) pk_nil)))))
        pss_nil)
      (pss_cons (ps_if (pt_cmpR op_eq (pe_callB (call_lenK K) (by rfl) (by assumption) (by decide +kernel) (pa_cons (pv 1) pa_nil)) pe_int (nomark _))
        (pss_one (ps_ret (pe_mks mk_Sparse hr (by omega) (by rfl) (pa_cons (pe_ix (ix_listK K) (pv 0) pe_int (fun _ _ => rfl)) (pa_cons (pe_ix (ix_listK K) (pv 0) pe_int (fun _ _ => rfl)) (pa_cons (pe_ix (ix_listK K) (pv 1) pe_int (fun _ _ => rfl)) (pa_cons (pe_ix (ix_listK K) (pv 1) pe_int (fun _ _ => rfl)) (pa_cons (pe_ix (ix_listK K) (pv 1) pe_int (fun _ _ => rfl)) (pa_cons (pe_ix (ix_listK K) (pv 1) pe_int (fun _ _ => rfl)) pa_nil)))))) (pk_cons (pe_ix (ix_listK K) (pv 0) pe_int (fun _ _ => rfl)) (pk_cons (pe_ix (ix_listK K) (pv 0) pe_int (fun _ _ => rfl)) pk_nil)))))
        pss_nil)
      (pss_cons (ps_if (pt_cmpR op_eq (pe_callB (call_lenK K) (by rfl) (by assumption) (by decide +kernel) (pa_cons (pv 1) pa_nil)) pe_int (nomark _))
        (pss_one (ps_ret (pe_mks mk_Sparse hr (by omega) (by rfl) (pa_cons (pe_ix (ix_listK K) (pv 0) pe_int (fun _ _ => rfl)) (pa_cons (pe_ix (ix_listK K) (pv 0) pe_int (fun _ _ => rfl)) (pa_cons (pe_ix (ix_listK K) (pv 1) pe_int (fun _ _ => rfl)) (pa_cons (pe_ix (ix_listK K) (pv 1) pe_int (fun _ _ => rfl)) (pa_cons (pe_ix (ix_listK K) (pv 1) pe_int (fun _ _ => rfl)) (pa_cons (pe_ix (ix_listK K) (pv 1) pe_int (fun _ _ => rfl)) (pa_cons (pe_ix (ix_listK K) (pv 1) pe_int (fun _ _ => rfl)) pa_nil))))))) (pk_cons (pe_ix (ix_listK K) (pv 0) pe_int (fun _ _ => rfl)) (pk_cons (pe_ix (ix_listK K) (pv 0) pe_int (fun _ _ => rfl)) pk_nil)))))
        pss_nil)
      (pss_one (ps_ret (pe_mks mk_Sparse hr (by omega) (by rfl) (pa_cons (pe_ix (ix_listK K) (pv 0) pe_int (fun _ _ => rfl)) (pa_cons (pe_ix (ix_listK K) (pv 0) pe_int (fun _ _ => rfl)) (pa_cons (pe_ix (ix_listK K) (pv 1) pe_int (fun _ _ => rfl)) (pa_cons (pe_ix (ix_listK K) (pv 1) pe_int (fun _ _ => rfl)) (pa_cons (pe_ix (ix_listK K) (pv 1) pe_int (fun _ _ => rfl)) (pa_cons (pe_ix (ix_listK K) (pv 1) pe_int (fun _ _ => rfl)) (pa_cons (pe_ix (ix_listK K) (pv 1) pe_int (fun _ _ => rfl)) (pa_cons (pe_ix (ix_listK K) (pv 1) pe_int (fun _ _ => rfl)) pa_nil)))))))) (pk_cons (pe_ix (ix_listK K) (pv 0) pe_int (fun _ _ => rfl)) (pk_cons (pe_ix (ix_listK K) (pv 0) pe_int (fun _ _ => rfl)) pk_nil)))))))))))))))), ?_⟩
    cases m with
    | file n b t ns =>
      obtain ⟨d, hp, hd⟩ := hat
      obtain ⟨st, hl, hall⟩ := hok
      walk_at "rd"
      refine r_iteD (fun _ => ?_) (fun h => absurd rfl h)
      walk_at "rd"
      refine sp_blob hd (by omega) hall (fun H1 e1 => ?_)
      have hp1 := e1 _ _ hp
      walk_at "rd"
      refine ⟨rfl, fun x dx hx hdx ne => ⟨rfl, fun E => ?_⟩⟩
      refine ⟨x, dx, n, _, b, t, rfl, upd_same, st, by rw [byteArr_size]; exact hl, fun H' fr hx' => ⟨rfl, ?_⟩⟩
      exact q x H' (e1.trans (frame_same hx hdx fr)) (e1.free hx) ⟨dx, hx'⟩
    | dir n b t =>
      have hp : H p = some (.lst [.str "directory", .str n, .int b, .int t]) := hat
      walk_at "rd"
      refine r_iteD (fun _ => ?_) (fun h => absurd rfl h)
      walk_at "rd"
      refine ⟨rfl, fun x dx hx hdx ne => ⟨rfl, fun E => ?_⟩⟩
      refine ⟨x, dx, n, b, t, rfl, upd_same, hok, fun H' fr hx' => ⟨rfl, ?_⟩⟩
      exact q x H' (frame_same hx hdx fr) hx ⟨dx, hx'⟩
    | sym n b t g =>
      have hp : H p = some (.lst [.str "symlink", .str n, .int b, .int t, .str g]) := hat
      walk_at "rd"
      refine r_iteD (fun _ => ?_) (fun h => absurd rfl h)
      walk_at "rd"
      refine ⟨rfl, fun x dx hx hdx ne => ⟨rfl, fun E => ?_⟩⟩
      refine ⟨x, dx, n, g, b, t, rfl, upd_same, hok.1, hok.2, fun H' fr hx' => ⟨rfl, ?_⟩⟩
      exact q x H' (frame_same hx hdx fr) hx ⟨dx, hx'⟩
    | lnk n b t g =>
      have hp : H p = some (.lst [.str "link", .str n, .int b, .int t, .str g]) := hat
      walk_at "rd"
      refine r_iteD (fun _ => ?_) (fun h => absurd rfl h)
      walk_at "rd"
      refine ⟨rfl, fun x dx hx hdx ne => ⟨rfl, fun E => ?_⟩⟩
      refine ⟨x, dx, n, g, b, t, rfl, upd_same, hok.1, hok.2, fun H' fr hx' => ⟨rfl, ?_⟩⟩
      exact q x H' (frame_same hx hdx fr) hx ⟨dx, hx'⟩
    | sparse n b t z sp =>
      obtain ⟨d, hp, as, hd, hpd⟩ := hat
      obtain ⟨st, z0, z1, hl, hso, hall⟩ := hok
      walk_at "rd"
      intro D hD
      have hal : as.length = sp.length := hpd.length
      refine lc_it (walk_list (xs := as.map V.ref)) (fun i H' => Same H H' ∧ ∃ bs : List Addr, H' D = some (.lst (bs.map V.ref)) ∧ Paired (fun q (s : Int × List Int) => q ≠ D ∧ H' q = some (.tup [.int s.1, .byt (byteArr s.2)])) bs (sp.take i)) ?_ (fun i H' _ ⟨e, _⟩ => SqL.of (e _ _ hd)) ?_ ?_
      · exact ⟨same_new hD, [], upd_same, .nil⟩
      · rintro i x Hc H' hi ⟨e, bs, hb, hbp⟩ ⟨rfl, hx⟩
        rw [List.getElem?_map] at hx
        obtain ⟨qa, hqa, rfl⟩ : ∃ qa, as[i]? = some qa ∧ V.ref qa = x := by
          cases e : as[i]? with
          | none => rw [e] at hx; cases hx
          | some qa => rw [e] at hx; exact ⟨qa, rfl, Option.some.inj hx⟩
        obtain ⟨s, hsi, ea, hq1, hq2⟩ := paired_at hpd hqa
        have hq' := e _ _ hq1
        have he' := e _ _ hq2
        have hin := List.mem_of_getElem? hsi
        have hsz : s.2.length ≤ 70000 := by
          have h1 := spansOk_all (Int.le_refl 0) hso (s.1, (s.2.length : Int)) (List.mem_map.mpr ⟨s, hin, rfl⟩)
          have h2 : s.1 + (s.2.length : Int) ≤ z := h1.2.2
          have h3 : 0 ≤ s.1 := h1.1
          omega
        walk_at "rd"
        refine ⟨rfl, ?_⟩
        unfold tYes
        dsimp only
        rw [if_pos rfl]
        walk_at "rd"
        refine sp_blob he' hsz (hall s hin) (fun H2 e2 => ?_)
        walk_at "rd"
        rename_i T hT
        have hb2 := e2 _ _ hb
        have nTD : T ≠ D := (ne_of_none hb2 hT).symm
        have hbl : (bs.map V.ref).length ≤ 6 := by
          rw [List.length_map, hbp.length, List.length_take]
          omega
        refine ⟨_, upd_old hT hb2, Nat.lt_of_le_of_lt hbl (by decide), fun b o eo => ?_, bs ++ [T], by rw [upd_same, List.map_append]; rfl, ?_⟩
        · have h2 := e2 _ _ (e _ _ eo)
          rw [upd_ne (ne_of_none eo hD), upd_ne (ne_of_none h2 hT)]
          exact h2
        · rw [take_snoc hsi]
          refine paired_snoc (Paired.mapP hbp fun y s ⟨n1, g1⟩ => ⟨n1, ?_⟩) ⟨nTD, ?_⟩
          · have h2 := e2 _ _ g1
            rw [upd_ne n1, upd_ne (ne_of_none h2 hT)]
            exact h2
          · rw [upd_ne nTD, upd_same]
      · rintro H1 ⟨e, bs, hb, hbp⟩
        rw [List.length_map, hal, List.take_length] at hbp
        have hp1 := e _ _ hp
        have hpc : pcsOk z (sp.map fun s => (s.1, byteArr s.2)) := by
          unfold pcsOk
          rw [List.map_map]
          have e3 : (sp.map ((fun (s : Int × Array UInt8) => (s.1, (s.2.size : Int))) ∘ fun s => (s.1, byteArr s.2))) = sp.map fun s => (s.1, (s.2.length : Int)) := by
            refine List.map_congr_left fun s _ => ?_
            show (s.1, ((byteArr s.2).size : Int)) = _
            rw [byteArr_size]
          rw [e3]
          exact hso
        have fin : ∀ (x dx : Addr), H1 x = none → H1 dx = none → dx ≠ x → spSpa c.S b t (.ref x :: .str n :: .int z :: bs.map V.ref) (upd (upd H1 dx (.own x)) x (.ins c.S dx [])) (fun v H3 => v = .non ∧ Q (.ref x) H3) := by
          intro x dx hx hdx ne
          refine ⟨x, dx, n, z, bs, sp.map fun s => (s.1, byteArr s.2), rfl, upd_same, st, ?_, hpc, z0, z1, by rw [List.length_map]; omega, fun p' H' hp' fr gp gx => ⟨rfl, ?_⟩⟩
          · refine paired_map (g := fun (s : Int × List Int) => (s.1, byteArr s.2)) (Paired.mapP hbp fun y s ⟨_, g1⟩ => ?_)
            show upd (upd H1 dx (.own x)) x (.ins c.S dx []) y = _
            rw [upd_ne (ne_of_none g1 hx), upd_ne (ne_of_none g1 hdx)]
            exact g1
          · have sm := frame_same hx hdx fr
            exact q x H' (e.trans sm) (e.free hx) ⟨dx, p', gx, bs, gp, paired_map (g := fun (s : Int × List Int) => (s.1, byteArr s.2)) (Paired.mapP hbp fun y s ⟨_, g1⟩ => sm _ _ g1)⟩
        have hlb : bs.length ≤ 6 := by rw [hbp.length]; exact hl
        rcases bs with _ | ⟨b1, _ | ⟨b2, _ | ⟨b3, _ | ⟨b4, _ | ⟨b5, _ | ⟨b6, _ | ⟨b7, bs⟩⟩⟩⟩⟩⟩⟩
        · simp only [List.map_cons, List.map_nil] at hb
          walk_at "rd"
          refine r_iteD (fun _ => ?_) (fun h => absurd rfl h)
          walk_at "rd"
          exact ⟨rfl, fun x dx hx hdx ne => ⟨b, t, rfl, fin x dx hx hdx ne⟩⟩
        · simp only [List.map_cons, List.map_nil] at hb
          walk_at "rd"
          refine r_iteD (fun _ => ?_) (fun h => absurd rfl h)
          walk_at "rd"
          exact ⟨rfl, fun x dx hx hdx ne => ⟨b, t, rfl, fin x dx hx hdx ne⟩⟩
        · simp only [List.map_cons, List.map_nil] at hb
          walk_at "rd"
          refine r_iteD (fun _ => ?_) (fun h => absurd rfl h)
          walk_at "rd"
          exact ⟨rfl, fun x dx hx hdx ne => ⟨b, t, rfl, fin x dx hx hdx ne⟩⟩
        · simp only [List.map_cons, List.map_nil] at hb
          walk_at "rd"
          refine r_iteD (fun _ => ?_) (fun h => absurd rfl h)
          walk_at "rd"
          exact ⟨rfl, fun x dx hx hdx ne => ⟨b, t, rfl, fin x dx hx hdx ne⟩⟩
        · simp only [List.map_cons, List.map_nil] at hb
          walk_at "rd"
          refine r_iteD (fun _ => ?_) (fun h => absurd rfl h)
          walk_at "rd"
          exact ⟨rfl, fun x dx hx hdx ne => ⟨b, t, rfl, fin x dx hx hdx ne⟩⟩
        · simp only [List.map_cons, List.map_nil] at hb
          walk_at "rd"
          refine r_iteD (fun _ => ?_) (fun h => absurd rfl h)
          walk_at "rd"
          exact ⟨rfl, fun x dx hx hdx ne => ⟨b, t, rfl, fin x dx hx hdx ne⟩⟩
        · simp only [List.map_cons, List.map_nil] at hb
          walk_at "rd"
          exact ⟨rfl, fun x dx hx hdx ne => ⟨b, t, rfl, fin x dx hx hdx ne⟩⟩
        · simp only [List.length_cons] at hlb
          omega
end
end Th
namespace Th
open PySem PySem.Spec PyProof.Rows L2
local macro_rules | `(tactic| walk_at "lk") => `(tactic| first
  | assumption
  | exact upd_same
  | (refine upd_old (by assumption) ?_; walk_at "lk")
  | (refine upd_diff (by assumption) ?_; walk_at "lk")
  | (refine upd_diff (Ne.symm (by assumption)) ?_; walk_at "lk"))
local macro_rules | `(tactic| walk_at "cnd") => `(tactic| first
  | omega
  | (refine ⟨by omega, by omega⟩)
  | (refine ⟨by omega, by omega, by omega⟩)
  | (refine .inl ⟨by omega, by omega⟩)
  | (refine .inr ⟨by omega, by omega⟩)
  | (exact (show CPow _ _ from ⟨by decide, by decide, by omega⟩))
  | decide +kernel
  | (unfold CMulW; decide +kernel)
  | (exact wide_div (b := 64) (by omega) (by omega) (by decide) (by decide)))
local macro_rules | `(tactic| walk_at "rd1") => `(tactic| first
  | (with_reducible refine r_seq ?_)
  | (with_reducible refine r_asg ?_)
  | (with_reducible refine r_ret ?_)
  | (with_reducible refine r_if ?_)
  | (with_reducible refine r_gname ?_)
  | ((with_reducible refine' r_var ?hv ?_); (case hv => exact rfl))
  | (with_reducible refine r_c ?_)
  | (with_reducible refine r_op ?_)
  | (with_reducible refine r_I0 ?_)
  | ((with_reducible refine r_I ?hc ?_); (case hc => walk_at "cnd"))
  | (with_reducible refine r_test ?_)
  | (with_reducible refine r_tB ?_)
  | (with_reducible refine r_bl ?_)
  | (with_reducible refine r_not ?_)
  | (with_reducible refine r_and ?_)
  | (with_reducible refine r_or ?_)
  | (with_reducible refine r_ifE ?_)
  | (with_reducible refine r_notV ?_)
  | (with_reducible refine r_andV ?_)
  | (with_reducible refine r_orV ?_)
  | (with_reducible refine r_chain ?_)
  | (with_reducible refine r_cb ?_)
  | (with_reducible refine r_call ?_)
  | (with_reducible refine r_callN ?_)
  | (with_reducible refine r_nil ?_)
  | (with_reducible refine r_cons ?_)
  | ((with_reducible refine r_lst ?_))
  | ((with_reducible refine r_tup ?_))
  | ((with_reducible refine r_new ?_ ?_); (exact Nat.le_of_ble_eq_true rfl); (intro p hp))
  | (with_reducible refine r_rInt1 ?_)
  | (with_reducible refine r_rIntB ?_)
  | (with_reducible refine r_rAbs ?_)
  | (with_reducible refine r_rMin2 ?_)
  | (with_reducible refine r_rMax2 ?_)
  | ((with_reducible refine r_rLenZ ?hz ?_); (case hz => first | assumption | exact Nat.le_of_ble_eq_true rfl | (refine Nat.le_trans ?_ (by decide : 100000 ≤ sizeLine); omega)))
  | ((with_reducible refine r_addZ ?hz ?_); (case hz => (refine Nat.le_trans ?_ (by decide : 100000 ≤ sizeLine); first | omega | (simp only [Str.length] at *; simp; omega))))
  | ((with_reducible refine r_mulZ ?hz ?h0 ?h1 ?_); (case hz => first | omega | exact Nat.le_of_ble_eq_true rfl); (case h0 => omega); (case h1 => omega))
  | ((with_reducible refine' r_rLenQ ?h1 ?_); (case h1 => first | (exact .inl (by assumption)) | (exact .inr (by assumption)) | (exact .inl (SqL.of (by walk_at "lk"))) | (exact .inr (SqT.of (by walk_at "lk")))))
  | ((with_reducible refine r_eq ?hs ?_); (case hs => exact rfl))
  | ((with_reducible refine r_ne ?hs ?_); (case hs => exact rfl))
  | (with_reducible refine r_inC ?_)
  | ((with_reducible refine' r_cat ?h1 ?h2 ?h3 ?_); (case h1 => walk_at "lk"); (case h2 => walk_at "lk"); (case h3 => exact Nat.le_of_ble_eq_true rfl); (intro p hp))
  | ((with_reducible refine' r_rep ?h1 ?h2 ?h3 ?h4 ?_); (case h1 => walk_at "lk"); (case h2 => omega); (case h3 => omega); (case h4 => exact Nat.le_of_ble_eq_true rfl); (intro p hp))
  | ((with_reducible refine' r_append ?h1 ?h2 ?_); (case h1 => walk_at "lk"); (case h2 => first | exact (show _ + 1 ≤ sizeLine from Nat.le_of_ble_eq_true rfl) | exact Nat.lt_of_le_of_lt (by omega : _ ≤ 100000) (by decide)))
  | (with_reducible refine r_bm ?_)
  | ((with_reducible refine' r_tyL ?h1 ?_); (case h1 => walk_at "lk"))
  | ((with_reducible refine' r_ixL ?h1 ?h2 ?_); (case h1 => first | assumption | exact SqL.of (by walk_at "lk")); (case h2 => exact rfl))
  | ((with_reducible refine' r_ixT ?h1 ?h2 ?_); (case h1 => first | assumption | exact SqT.of (by walk_at "lk")); (case h2 => exact rfl))
  | (with_reducible refine r_gsub ?_)
  | ((with_reducible refine' r_setL ?h1 ?h2 ?_); (case h1 => walk_at "lk"); (case h2 => exact rfl))
  | (with_reducible refine r_un ?_)
  | (with_reducible refine r_neg ?_)
  | (with_reducible refine r_iteT ?_)
  | (with_reducible refine r_iteNT ?_)
  | (with_reducible refine r_iteNF ?_)
  | (with_reducible refine r_iteF ?_)
  | (with_reducible refine r_next ?_)
  | (with_reducible refine r_drop ?_)
  | (with_reducible refine r_cont ?_)
  | (with_reducible refine r_brk ?_))
local macro_rules | `(tactic| walk_at "ty") => `(tactic| first
  | assumption
  | exact .base (.int _)
  | exact .base (.str _)
  | exact .base (.bl _)
  | exact .base .non
  | exact .byt _
  | exact .base (.lst (by walk_at "lk"))
  | exact .base (.tup (by walk_at "lk")))
local macro_rules | `(tactic| walk_at "rd2") => `(tactic| first
  | walk_at "rd1"
  | ((with_reducible refine' r_isi true ?ht ?hk ?_); (case ht => walk_at "ty"); (case hk => first | assumption | decide +kernel))
  | ((with_reducible refine' r_isi false ?ht ?hk ?_); (case ht => walk_at "ty"); (case hk => first | assumption | decide +kernel))
  | ((with_reducible refine' r_isiT2 true true ?hT ?ht ?hk ?hk2 ?_); (case hT => walk_at "lk"); (case ht => walk_at "ty"); (case hk => decide +kernel); (case hk2 => decide +kernel))
  | ((with_reducible refine' r_isiT2 true false ?hT ?ht ?hk ?hk2 ?_); (case hT => walk_at "lk"); (case ht => walk_at "ty"); (case hk => decide +kernel); (case hk2 => decide +kernel))
  | ((with_reducible refine' r_isiT2 false true ?hT ?ht ?hk ?hk2 ?_); (case hT => walk_at "lk"); (case ht => walk_at "ty"); (case hk => decide +kernel); (case hk2 => decide +kernel))
  | ((with_reducible refine' r_isiT2 false false ?hT ?ht ?hk ?hk2 ?_); (case hT => walk_at "lk"); (case ht => walk_at "ty"); (case hk => decide +kernel); (case hk2 => decide +kernel))
  | (with_reducible refine r_iteNT ?_)
  | ((show (if (!true) = true then _ else _)); refine r_iteNT ?_)
  | (with_reducible refine r_r1 ?_)
  | (with_reducible refine r_maks ?_)
  | (with_reducible refine r_sfld ?_)
  | ((with_reducible refine' r_sfldE ?h1 ?h2 ?h3 ?h4 ?_); (case h1 => walk_at "lk"); (case h2 => assumption); (case h3 => assumption); (case h4 => exact (show _ + 1 ≤ 1000 from Nat.le_of_ble_eq_true rfl)))
  | (with_reducible refine r_fld ?_)
  | (with_reducible refine r_join ?_)
  | (with_reducible refine r_jcons ?_)
  | (with_reducible refine r_jnil ?_)
  | ((with_reducible refine r_rLenY ?hz ?_); (case hz => first | assumption | (refine Nat.le_trans ?_ (by decide : 100000 ≤ sizeLine); omega)))
  | (with_reducible refine r_par ?_)
  | (with_reducible refine r_pair ?_)
  | (with_reducible refine r_par3 ?_)
  | (with_reducible refine r_trip ?_)
  | ((with_reducible refine' r_gtup ?h1 ?h2 ?_); (case h1 => first | assumption | exact SqT.of (by walk_at "lk")); (case h2 => exact rfl))
  | (with_reducible refine r_gcons ?_)
  | (with_reducible refine r_gnil ?_)
  | ((with_reducible refine' r_slL ?h1 ?_); (case h1 => first | assumption | exact SqL.of (by walk_at "lk")); (intro p hp))
  | (with_reducible refine r_iTup ?_)
  | ((with_reducible refine' r_tupE ?h1 ?_); (case h1 => first | assumption | exact SqT.of (by walk_at "lk")))
  | (with_reducible refine r_m1 ?_)
  | (with_reducible refine r_isZ ?_)
  | (with_reducible refine r_sl ?_)
  | (with_reducible refine r_noPart ?_)
  | (with_reducible refine r_part ?_)
  | (with_reducible refine r_partE ?_)
  | ((with_reducible refine r_slS ?hz ?_); (case hz => first | assumption | (refine Nat.le_trans ?_ (by decide : 100000 ≤ sizeLine); omega)))
  | ((with_reducible refine' r_inT ?h1 ?h2 ?h3 ?_); (case h1 => first | assumption | (exact SqT.of (by walk_at "lk"))); (case h2 => exact rfl); (case h3 => exact rfl))
  | ((with_reducible refine' r_inL ?h1 ?h2 ?h3 ?_); (case h1 => first | assumption | (exact SqL.of (by walk_at "lk"))); (case h2 => exact rfl); (case h3 => exact rfl))
  | (with_reducible refine r_lc ?_)
  | (with_reducible refine r_for ?_)
  | (with_reducible refine r_iStr ?_)
  | (with_reducible refine r_strE ?_)
  | (with_reducible refine r_iList ?_)
  | ((with_reducible refine' r_listE ?h1 ?_); (case h1 => first | assumption | exact SqL.of (by walk_at "lk")))
  | (with_reducible refine r_iRng1 ?_)
  | ((with_reducible refine' r_rngE ?h0 ?h1 ?_); (case h0 => first | omega | (split <;> omega)); (case h1 => first | omega | (split <;> omega))))
local macro_rules | `(tactic| walk_at "rd") => `(tactic| (repeat walk_at "rd2"))
local macro_rules | `(tactic| walk_at "st") => `(tactic| (repeat (first
  | (with_reducible refine r_gname ?_)
  | (with_reducible refine r_next ?_)
  | (with_reducible refine r_seq ?_)
  | (with_reducible refine r_asg ?_)
  | (with_reducible refine r_ret ?_)
  | (with_reducible refine r_for ?_)
  | (with_reducible refine r_iRng1 ?_)
  | (with_reducible refine r_iList ?_)
  | (with_reducible refine r_cons ?_)
  | (with_reducible refine r_par ?_)
  | (with_reducible refine r_par3 ?_))))
/-! ### repr and content of the members -/
theorem repr_nc : ∀ c ∈ NC.cps.toList, Builtin.Str.reprChar 39 c = [c] ∧ c ≠ 39 := by decide +kernel
theorem repr_fold : ∀ (l : List Nat) (acc : Array Nat), (∀ c ∈ l, Builtin.Str.reprChar 39 c = [c]) → (l.foldl (fun out c => out ++ (Builtin.Str.reprChar 39 c).toArray) acc).toList = acc.toList ++ l
  | [], acc, _ => by simp
  | c :: r, acc, h => by
    rw [List.foldl_cons, repr_fold r _ (fun d hd => h d (List.mem_cons_of_mem _ hd)), h c List.mem_cons_self]
    simp
theorem repr_name {z : Str} (h : charsB z = true) : reprText z = "'" ++ z ++ "'" := by
  unfold charsB at h
  rw [List.all_eq_true] at h
  have hq : reprQuote z = 39 := by
    unfold reprQuote
    have : z.cps.contains 39 = false := by
      rw [← Bool.not_eq_true, Array.contains_iff_mem]
      intro hm
      exact (repr_nc _ (of_decide_eq_true (h 39 (Array.mem_toList_iff.mpr hm)))).2 rfl
    rw [this]
    rfl
  unfold reprText
  rw [hq, ← Array.foldl_toList]
  have e1 := repr_fold z.cps.toList #[39] (fun c hc => (repr_nc c (of_decide_eq_true (h c hc))).1)
  show Str.mk _ = Str.mk ((#[39] ++ z.cps) ++ #[39])
  congr 1
  apply Array.ext'
  rw [Array.toList_push, e1]
  simp
/-- the words of a member's repr -/
def titled (t : Str) (n : Str) : Str := t ++ ("('" ++ n ++ "')")
theorem repr_len {n : Str} (h : charsB n = true) : (reprText n).length = n.length + 2 := by
  rw [repr_name h]
  show ((#[39] ++ n.cps) ++ #[39]).size = n.cps.size + 2
  rw [Array.size_append, Array.size_append]
  show 1 + n.cps.size + 1 = _
  omega
theorem tit_eq {t u : Str} (n : Str) (h : u.cps.toList = t.cps.toList ++ [40]) : titled t n = Str.empty ++ u ++ ("'" ++ n ++ "'") ++ ")" := by
  unfold titled
  show Str.mk (t.cps ++ ((#[40, 39] ++ n.cps) ++ #[39, 41])) = Str.mk (((#[] ++ u.cps) ++ ((#[39] ++ n.cps) ++ #[39])) ++ #[41])
  congr 1
  apply Array.ext'
  simp [h]
theorem add_len {x y : Str} : (x ++ y).length = x.length + y.length := Array.size_append
theorem join_len {x y : Str} (hx : x.length ≤ 1000) (hy : y.length ≤ 1000) : (x ++ y).length ≤ sizeLine := by
  rw [add_len]
  exact Nat.le_trans (Nat.add_le_add hx hy) (by decide)
theorem join_len2 {x y : Str} (hx : x.length ≤ 500) (hy : y.length ≤ 500) : (x ++ y).length ≤ 1000 := by
  rw [add_len]
  omega
theorem titled_File {n : Str} : titled "File" n = Str.empty ++ "File(" ++ ("'" ++ n ++ "'") ++ ")" := tit_eq n rfl
theorem titled_Sparse {n : Str} : titled "Sparse" n = Str.empty ++ "Sparse(" ++ ("'" ++ n ++ "'") ++ ")" := tit_eq n rfl
theorem titled_Directory {n : Str} : titled "Directory" n = Str.empty ++ "Directory(" ++ ("'" ++ n ++ "'") ++ ")" := tit_eq n rfl
theorem titled_Symlink {n : Str} : titled "Symlink" n = Str.empty ++ "Symlink(" ++ ("'" ++ n ++ "'") ++ ")" := tit_eq n rfl
theorem titled_Link {n : Str} : titled "Link" n = Str.empty ++ "Link(" ++ ("'" ++ n ++ "'") ++ ")" := tit_eq n rfl
def spRepr (C : Addr) (t : Str) : Sp := fun vs H Q _ => ∃ (a dx : Addr) (fs : List (Str × V)) (n : Str), vs = [.ref a] ∧ H a = some (.ins C dx fs) ∧ fs.lookup (Str.ofString "name") = some (.str n) ∧ nameB n = true ∧ Q (.str (titled t n)) H
theorem sp_repr {C : Addr} {t : Str} {a dx : Addr} {fs : List (Str × V)} {n : Str} {H : Hp} {Q : VK} {E : XK} (h1 : H a = some (.ins C dx fs)) (h2 : fs.lookup (Str.ofString "name") = some (.str n)) (h3 : nameB n = true) (k : Q (.str (titled t n)) H) : spRepr C t [.ref a] H Q E := ⟨a, dx, fs, n, rfl, h1, h2, h3, k⟩
section
variable {P : Program} {w : World} {K : PySem.W.Frag} {mg : Str → Option Value} {base : Heap}
theorem ok_reprFile {f C : Addr} {fd : FuncData} {k : Nat} (F : Fun K "__repr__" "File.__repr__" s_File___repr__ f fd) (hc : Cls K C) (a1 : NoAttr K C "name") : FnOk P w K mg base CX0 (k + 2) f fd ["self"] (spRepr C "File") := by
  refine F.ok sc_File___repr__ (fun vs H Q E h => ?_) (fun cdv A outer s H vs Q E hr h => ?_)
  · obtain ⟨a, dx, fs, n, rfl, _⟩ := h
    rfl
  · obtain ⟨a, dx, fs, n, rfl, ha, hn, hb, q⟩ := h
    have hu := hu_of hr
    have nd := sc_File___repr__.nd
    obtain ⟨n1, n2, n3⟩ := of_name hb
    have er := repr_name n3
    have el := repr_len n3
    refine ⟨_, (pss_one (ps_ret (pe_joinN (pe_joined (PJ.cons pe_str (PJ.cons (pe_fmtR (pe_fld (pv 0) rfl)) (PJ.cons pe_str PJ.nil))))))), ?_⟩
    walk_at "rd"
    refine ⟨Nat.le_of_ble_eq_true rfl, ?_⟩
    walk_at "rd"
    refine r_fmtR ?_
    walk_at "rd"
    refine r_fldE ha hc a1 hn (.inl ⟨n, rfl, (by rw [el]; exact Nat.le_trans (Nat.add_le_add_right n2 2) (by decide)), ?_⟩)
    rw [er] at el ⊢
    refine ⟨_, rfl, join_len (by decide +kernel) (by omega), ?_⟩
    walk_at "rd"
    refine ⟨join_len (join_len2 (by decide +kernel) (by omega)) (by decide), ?_⟩
    walk_at "rd"
    rw [titled_File] at q
    exact q
theorem ok_reprSparse {f C : Addr} {fd : FuncData} {k : Nat} (F : Fun K "__repr__" "Sparse.__repr__" s_Sparse___repr__ f fd) (hc : Cls K C) (a1 : NoAttr K C "name") : FnOk P w K mg base CX0 (k + 2) f fd ["self"] (spRepr C "Sparse") := by
  refine F.ok sc_Sparse___repr__ (fun vs H Q E h => ?_) (fun cdv A outer s H vs Q E hr h => ?_)
  · obtain ⟨a, dx, fs, n, rfl, _⟩ := h
    rfl
  · obtain ⟨a, dx, fs, n, rfl, ha, hn, hb, q⟩ := h
    have hu := hu_of hr
    have nd := sc_Sparse___repr__.nd
    obtain ⟨n1, n2, n3⟩ := of_name hb
    have er := repr_name n3
    have el := repr_len n3
    refine ⟨_, (pss_one (ps_ret (pe_joinN (pe_joined (PJ.cons pe_str (PJ.cons (pe_fmtR (pe_fld (pv 0) rfl)) (PJ.cons pe_str PJ.nil))))))), ?_⟩
    walk_at "rd"
    refine ⟨Nat.le_of_ble_eq_true rfl, ?_⟩
    walk_at "rd"
    refine r_fmtR ?_
    walk_at "rd"
    refine r_fldE ha hc a1 hn (.inl ⟨n, rfl, (by rw [el]; exact Nat.le_trans (Nat.add_le_add_right n2 2) (by decide)), ?_⟩)
    rw [er] at el ⊢
    refine ⟨_, rfl, join_len (by decide +kernel) (by omega), ?_⟩
    walk_at "rd"
    refine ⟨join_len (join_len2 (by decide +kernel) (by omega)) (by decide), ?_⟩
    walk_at "rd"
    rw [titled_Sparse] at q
    exact q
theorem ok_reprDirectory {f C : Addr} {fd : FuncData} {k : Nat} (F : Fun K "__repr__" "Directory.__repr__" s_Directory___repr__ f fd) (hc : Cls K C) (a1 : NoAttr K C "name") : FnOk P w K mg base CX0 (k + 2) f fd ["self"] (spRepr C "Directory") := by
  refine F.ok sc_Directory___repr__ (fun vs H Q E h => ?_) (fun cdv A outer s H vs Q E hr h => ?_)
  · obtain ⟨a, dx, fs, n, rfl, _⟩ := h
    rfl
  · obtain ⟨a, dx, fs, n, rfl, ha, hn, hb, q⟩ := h
    have hu := hu_of hr
    have nd := sc_Directory___repr__.nd
    obtain ⟨n1, n2, n3⟩ := of_name hb
    have er := repr_name n3
    have el := repr_len n3
    refine ⟨_, (pss_one (ps_ret (pe_joinN (pe_joined (PJ.cons pe_str (PJ.cons (pe_fmtR (pe_fld (pv 0) rfl)) (PJ.cons pe_str PJ.nil))))))), ?_⟩
    walk_at "rd"
    refine ⟨Nat.le_of_ble_eq_true rfl, ?_⟩
    walk_at "rd"
    refine r_fmtR ?_
    walk_at "rd"
    refine r_fldE ha hc a1 hn (.inl ⟨n, rfl, (by rw [el]; exact Nat.le_trans (Nat.add_le_add_right n2 2) (by decide)), ?_⟩)
    rw [er] at el ⊢
    refine ⟨_, rfl, join_len (by decide +kernel) (by omega), ?_⟩
    walk_at "rd"
    refine ⟨join_len (join_len2 (by decide +kernel) (by omega)) (by decide), ?_⟩
    walk_at "rd"
    rw [titled_Directory] at q
    exact q
theorem ok_reprSymlink {f C : Addr} {fd : FuncData} {k : Nat} (F : Fun K "__repr__" "Symlink.__repr__" s_Symlink___repr__ f fd) (hc : Cls K C) (a1 : NoAttr K C "name") : FnOk P w K mg base CX0 (k + 2) f fd ["self"] (spRepr C "Symlink") := by
  refine F.ok sc_Symlink___repr__ (fun vs H Q E h => ?_) (fun cdv A outer s H vs Q E hr h => ?_)
  · obtain ⟨a, dx, fs, n, rfl, _⟩ := h
    rfl
  · obtain ⟨a, dx, fs, n, rfl, ha, hn, hb, q⟩ := h
    have hu := hu_of hr
    have nd := sc_Symlink___repr__.nd
    obtain ⟨n1, n2, n3⟩ := of_name hb
    have er := repr_name n3
    have el := repr_len n3
    refine ⟨_, (pss_one (ps_ret (pe_joinN (pe_joined (PJ.cons pe_str (PJ.cons (pe_fmtR (pe_fld (pv 0) rfl)) (PJ.cons pe_str PJ.nil))))))), ?_⟩
    walk_at "rd"
    refine ⟨Nat.le_of_ble_eq_true rfl, ?_⟩
    walk_at "rd"
    refine r_fmtR ?_
    walk_at "rd"
    refine r_fldE ha hc a1 hn (.inl ⟨n, rfl, (by rw [el]; exact Nat.le_trans (Nat.add_le_add_right n2 2) (by decide)), ?_⟩)
    rw [er] at el ⊢
    refine ⟨_, rfl, join_len (by decide +kernel) (by omega), ?_⟩
    walk_at "rd"
    refine ⟨join_len (join_len2 (by decide +kernel) (by omega)) (by decide), ?_⟩
    walk_at "rd"
    rw [titled_Symlink] at q
    exact q
theorem ok_reprLink {f C : Addr} {fd : FuncData} {k : Nat} (F : Fun K "__repr__" "Link.__repr__" s_Link___repr__ f fd) (hc : Cls K C) (a1 : NoAttr K C "name") : FnOk P w K mg base CX0 (k + 2) f fd ["self"] (spRepr C "Link") := by
  refine F.ok sc_Link___repr__ (fun vs H Q E h => ?_) (fun cdv A outer s H vs Q E hr h => ?_)
  · obtain ⟨a, dx, fs, n, rfl, _⟩ := h
    rfl
  · obtain ⟨a, dx, fs, n, rfl, ha, hn, hb, q⟩ := h
    have hu := hu_of hr
    have nd := sc_Link___repr__.nd
    obtain ⟨n1, n2, n3⟩ := of_name hb
    have er := repr_name n3
    have el := repr_len n3
    refine ⟨_, (pss_one (ps_ret (pe_joinN (pe_joined (PJ.cons pe_str (PJ.cons (pe_fmtR (pe_fld (pv 0) rfl)) (PJ.cons pe_str PJ.nil))))))), ?_⟩
    walk_at "rd"
    refine ⟨Nat.le_of_ble_eq_true rfl, ?_⟩
    walk_at "rd"
    refine r_fmtR ?_
    walk_at "rd"
    refine r_fldE ha hc a1 hn (.inl ⟨n, rfl, (by rw [el]; exact Nat.le_trans (Nat.add_le_add_right n2 2) (by decide)), ?_⟩)
    rw [er] at el ⊢
    refine ⟨_, rfl, join_len (by decide +kernel) (by omega), ?_⟩
    walk_at "rd"
    refine ⟨join_len (join_len2 (by decide +kernel) (by omega)) (by decide), ?_⟩
    walk_at "rd"
    rw [titled_Link] at q
    exact q
end
end Th
namespace Th
open PySem PySem.Spec PyProof.Rows L2
local macro_rules | `(tactic| walk_at "lk") => `(tactic| first
  | assumption
  | exact upd_same
  | (refine upd_old (by assumption) ?_; walk_at "lk")
  | (refine upd_diff (by assumption) ?_; walk_at "lk")
  | (refine upd_diff (Ne.symm (by assumption)) ?_; walk_at "lk"))
local macro_rules | `(tactic| walk_at "cnd") => `(tactic| first
  | omega
  | (refine ⟨by omega, by omega⟩)
  | (refine ⟨by omega, by omega, by omega⟩)
  | (refine .inl ⟨by omega, by omega⟩)
  | (refine .inr ⟨by omega, by omega⟩)
  | (exact (show CPow _ _ from ⟨by decide, by decide, by omega⟩))
  | decide +kernel
  | (unfold CMulW; decide +kernel)
  | (exact wide_div (b := 64) (by omega) (by omega) (by decide) (by decide)))
local macro_rules | `(tactic| walk_at "rd1") => `(tactic| first
  | (with_reducible refine r_seq ?_)
  | (with_reducible refine r_asg ?_)
  | (with_reducible refine r_ret ?_)
  | (with_reducible refine r_if ?_)
  | (with_reducible refine r_gname ?_)
  | ((with_reducible refine' r_var ?hv ?_); (case hv => exact rfl))
  | (with_reducible refine r_c ?_)
  | (with_reducible refine r_op ?_)
  | (with_reducible refine r_I0 ?_)
  | ((with_reducible refine r_I ?hc ?_); (case hc => walk_at "cnd"))
  | (with_reducible refine r_test ?_)
  | (with_reducible refine r_tB ?_)
  | (with_reducible refine r_bl ?_)
  | (with_reducible refine r_not ?_)
  | (with_reducible refine r_and ?_)
  | (with_reducible refine r_or ?_)
  | (with_reducible refine r_ifE ?_)
  | (with_reducible refine r_notV ?_)
  | (with_reducible refine r_andV ?_)
  | (with_reducible refine r_orV ?_)
  | (with_reducible refine r_chain ?_)
  | (with_reducible refine r_cb ?_)
  | (with_reducible refine r_call ?_)
  | (with_reducible refine r_callN ?_)
  | (with_reducible refine r_nil ?_)
  | (with_reducible refine r_cons ?_)
  | ((with_reducible refine r_lst ?_))
  | ((with_reducible refine r_tup ?_))
  | ((with_reducible refine r_new ?_ ?_); (exact Nat.le_of_ble_eq_true rfl); (intro p hp))
  | (with_reducible refine r_rInt1 ?_)
  | (with_reducible refine r_rIntB ?_)
  | (with_reducible refine r_rAbs ?_)
  | (with_reducible refine r_rMin2 ?_)
  | (with_reducible refine r_rMax2 ?_)
  | ((with_reducible refine r_rLenZ ?hz ?_); (case hz => first | assumption | exact Nat.le_of_ble_eq_true rfl | (refine Nat.le_trans ?_ (by decide : 100000 ≤ sizeLine); omega)))
  | ((with_reducible refine r_addZ ?hz ?_); (case hz => (refine Nat.le_trans ?_ (by decide : 100000 ≤ sizeLine); first | omega | (simp only [Str.length] at *; simp; omega))))
  | ((with_reducible refine r_mulZ ?hz ?h0 ?h1 ?_); (case hz => first | omega | exact Nat.le_of_ble_eq_true rfl); (case h0 => omega); (case h1 => omega))
  | ((with_reducible refine' r_rLenQ ?h1 ?_); (case h1 => first | (exact .inl (by assumption)) | (exact .inr (by assumption)) | (exact .inl (SqL.of (by walk_at "lk"))) | (exact .inr (SqT.of (by walk_at "lk")))))
  | ((with_reducible refine r_eq ?hs ?_); (case hs => exact rfl))
  | ((with_reducible refine r_ne ?hs ?_); (case hs => exact rfl))
  | (with_reducible refine r_inC ?_)
  | ((with_reducible refine' r_cat ?h1 ?h2 ?h3 ?_); (case h1 => walk_at "lk"); (case h2 => walk_at "lk"); (case h3 => exact Nat.le_of_ble_eq_true rfl); (intro p hp))
  | ((with_reducible refine' r_rep ?h1 ?h2 ?h3 ?h4 ?_); (case h1 => walk_at "lk"); (case h2 => omega); (case h3 => omega); (case h4 => exact Nat.le_of_ble_eq_true rfl); (intro p hp))
  | ((with_reducible refine' r_append ?h1 ?h2 ?_); (case h1 => walk_at "lk"); (case h2 => first | exact (show _ + 1 ≤ sizeLine from Nat.le_of_ble_eq_true rfl) | exact Nat.lt_of_le_of_lt (by omega : _ ≤ 100000) (by decide)))
  | (with_reducible refine r_bm ?_)
  | ((with_reducible refine' r_tyL ?h1 ?_); (case h1 => walk_at "lk"))
  | ((with_reducible refine' r_ixL ?h1 ?h2 ?_); (case h1 => first | assumption | exact SqL.of (by walk_at "lk")); (case h2 => exact rfl))
  | ((with_reducible refine' r_ixT ?h1 ?h2 ?_); (case h1 => first | assumption | exact SqT.of (by walk_at "lk")); (case h2 => exact rfl))
  | (with_reducible refine r_gsub ?_)
  | ((with_reducible refine' r_setL ?h1 ?h2 ?_); (case h1 => walk_at "lk"); (case h2 => exact rfl))
  | (with_reducible refine r_un ?_)
  | (with_reducible refine r_neg ?_)
  | (with_reducible refine r_iteT ?_)
  | (with_reducible refine r_iteNT ?_)
  | (with_reducible refine r_iteNF ?_)
  | (with_reducible refine r_iteF ?_)
  | (with_reducible refine r_next ?_)
  | (with_reducible refine r_drop ?_)
  | (with_reducible refine r_cont ?_)
  | (with_reducible refine r_brk ?_))
local macro_rules | `(tactic| walk_at "ty") => `(tactic| first
  | assumption
  | exact .base (.int _)
  | exact .base (.str _)
  | exact .base (.bl _)
  | exact .base .non
  | exact .byt _
  | exact .base (.lst (by walk_at "lk"))
  | exact .base (.tup (by walk_at "lk")))
local macro_rules | `(tactic| walk_at "rd2") => `(tactic| first
  | walk_at "rd1"
  | ((with_reducible refine' r_isi true ?ht ?hk ?_); (case ht => walk_at "ty"); (case hk => first | assumption | decide +kernel))
  | ((with_reducible refine' r_isi false ?ht ?hk ?_); (case ht => walk_at "ty"); (case hk => first | assumption | decide +kernel))
  | ((with_reducible refine' r_isiT2 true true ?hT ?ht ?hk ?hk2 ?_); (case hT => walk_at "lk"); (case ht => walk_at "ty"); (case hk => decide +kernel); (case hk2 => decide +kernel))
  | ((with_reducible refine' r_isiT2 true false ?hT ?ht ?hk ?hk2 ?_); (case hT => walk_at "lk"); (case ht => walk_at "ty"); (case hk => decide +kernel); (case hk2 => decide +kernel))
  | ((with_reducible refine' r_isiT2 false true ?hT ?ht ?hk ?hk2 ?_); (case hT => walk_at "lk"); (case ht => walk_at "ty"); (case hk => decide +kernel); (case hk2 => decide +kernel))
  | ((with_reducible refine' r_isiT2 false false ?hT ?ht ?hk ?hk2 ?_); (case hT => walk_at "lk"); (case ht => walk_at "ty"); (case hk => decide +kernel); (case hk2 => decide +kernel))
  | (with_reducible refine r_iteNT ?_)
  | ((show (if (!true) = true then _ else _)); refine r_iteNT ?_)
  | (with_reducible refine r_r1 ?_)
  | (with_reducible refine r_maks ?_)
  | (with_reducible refine r_sfld ?_)
  | ((with_reducible refine' r_sfldE ?h1 ?h2 ?h3 ?h4 ?_); (case h1 => walk_at "lk"); (case h2 => assumption); (case h3 => assumption); (case h4 => exact (show _ + 1 ≤ 1000 from Nat.le_of_ble_eq_true rfl)))
  | (with_reducible refine r_fld ?_)
  | (with_reducible refine r_join ?_)
  | (with_reducible refine r_jcons ?_)
  | (with_reducible refine r_jnil ?_)
  | ((with_reducible refine r_rLenY ?hz ?_); (case hz => first | assumption | (refine Nat.le_trans ?_ (by decide : 100000 ≤ sizeLine); omega)))
  | (with_reducible refine r_par ?_)
  | (with_reducible refine r_pair ?_)
  | (with_reducible refine r_par3 ?_)
  | (with_reducible refine r_trip ?_)
  | ((with_reducible refine' r_gtup ?h1 ?h2 ?_); (case h1 => first | assumption | exact SqT.of (by walk_at "lk")); (case h2 => exact rfl))
  | (with_reducible refine r_gcons ?_)
  | (with_reducible refine r_gnil ?_)
  | ((with_reducible refine' r_slL ?h1 ?_); (case h1 => first | assumption | exact SqL.of (by walk_at "lk")); (intro p hp))
  | (with_reducible refine r_iTup ?_)
  | ((with_reducible refine' r_tupE ?h1 ?_); (case h1 => first | assumption | exact SqT.of (by walk_at "lk")))
  | (with_reducible refine r_m1 ?_)
  | (with_reducible refine r_isZ ?_)
  | (with_reducible refine r_sl ?_)
  | (with_reducible refine r_noPart ?_)
  | (with_reducible refine r_part ?_)
  | (with_reducible refine r_partE ?_)
  | ((with_reducible refine r_slS ?hz ?_); (case hz => first | assumption | (refine Nat.le_trans ?_ (by decide : 100000 ≤ sizeLine); omega)))
  | ((with_reducible refine' r_inT ?h1 ?h2 ?h3 ?_); (case h1 => first | assumption | (exact SqT.of (by walk_at "lk"))); (case h2 => exact rfl); (case h3 => exact rfl))
  | ((with_reducible refine' r_inL ?h1 ?h2 ?h3 ?_); (case h1 => first | assumption | (exact SqL.of (by walk_at "lk"))); (case h2 => exact rfl); (case h3 => exact rfl))
  | (with_reducible refine r_lc ?_)
  | (with_reducible refine r_for ?_)
  | (with_reducible refine r_iStr ?_)
  | (with_reducible refine r_strE ?_)
  | (with_reducible refine r_iList ?_)
  | ((with_reducible refine' r_listE ?h1 ?_); (case h1 => first | assumption | exact SqL.of (by walk_at "lk")))
  | (with_reducible refine r_iRng1 ?_)
  | ((with_reducible refine' r_rngE ?h0 ?h1 ?_); (case h0 => first | omega | (split <;> omega)); (case h1 => first | omega | (split <;> omega))))
local macro_rules | `(tactic| walk_at "rd") => `(tactic| (repeat walk_at "rd2"))
local macro_rules | `(tactic| walk_at "st") => `(tactic| (repeat (first
  | (with_reducible refine r_gname ?_)
  | (with_reducible refine r_next ?_)
  | (with_reducible refine r_seq ?_)
  | (with_reducible refine r_asg ?_)
  | (with_reducible refine r_ret ?_)
  | (with_reducible refine r_for ?_)
  | (with_reducible refine r_iRng1 ?_)
  | (with_reducible refine r_iList ?_)
  | (with_reducible refine r_cons ?_)
  | (with_reducible refine r_par ?_)
  | (with_reducible refine r_par3 ?_))))
/-! ### one place of the code, several classes: either promise may be kept -/
def tOr (a b : TE) : TE := fun σ H Q => a σ H Q ∨ b σ H Q
theorem pe_or2 {X : Cx} {e : Expr} {a b : TE} (h1 : PE X e a) (h2 : PE X e b) : PE X e (tOr a b) :=
  ⟨fun pins s σ H Q I h => h.elim (fun h => h1.run pins s σ H Q I h) (fun h => h2.run pins s σ H Q I h)⟩
theorem r_orL {a b : TE} {σ : L2.St} {H : Hp} {Q : VK} (h : a σ H Q) : tOr a b σ H Q := .inl h
theorem r_orR {a b : TE} {σ : L2.St} {H : Hp} {Q : VK} (h : b σ H Q) : tOr a b σ H Q := .inr h
def rOr (a b : List V → Hp → VK → Prop) : List V → Hp → VK → Prop := fun xs H Q => a xs H Q ∨ b xs H Q
theorem call_or2 {X : Cx} {f : Value} {a b : List V → Hp → VK → Prop} (h1 : CallR X f a) (h2 : CallR X f b) : CallR X f (rOr a b) := fun pins s σ H xs us Q I r h =>
  h.elim (fun h => h1 pins s σ H xs us Q I r h) (fun h => h2 pins s σ H xs us Q I r h)
/-! ### numbers of the program's bytes -/
theorem byteArr_ints {ns : List Int} (h : ns.all inByte = true) : (byteArr ns).toList.map (fun c => (c.toNat : Int)) = ns := by
  unfold byteArr
  rw [List.all_eq_true] at h
  simp only [List.map_map]
  refine (List.map_congr_left (g := id) fun i hi => ?_).trans (List.map_id _)
  have hb := h i hi
  unfold inByte at hb
  rw [Bool.and_eq_true, decide_eq_true_iff, decide_eq_true_iff] at hb
  show ((i.toNat.toUInt8.toNat : Nat) : Int) = i
  rw [show i.toNat.toUInt8.toNat = i.toNat % 256 from rfl]
  omega
/-! ### methods that take self only -/
structure MethT (P : Program) (w : World) (K : PySem.W.Frag) (mg : Str → Option Value) (base : Heap) (k : Nat) (C : Addr) (m : Str) (sp : Sp) : Prop where
  ex : ∃ (f : Addr) (fd : FuncData), FnOk P w K mg base CX0 k f fd ["self"] sp ∧ Cls K C ∧ Meth K C m f ∧ Binds K fd ["self"] []
section
variable {X : Cx} {j k : Nat} {C : Addr} {m : Str} {sp : Sp} {o : Expr} {ta : TE} {apos pos : Pos}
theorem pe_mt0 {pl : Sem Bool} (c : MethT X.prog X.w X.K X.mg X.base k C m sp) (hr : Room j X.A) (hk : k ≤ j) (he : PE X o ta)
    (ht : eval (.Call (.Attribute o m apos) [] [] pos) X.env = (do
      let ov ← eval o X.env
      standAt apos.atName
      let (f, first) ← holding [ov] (getMethod ov m pl)
      callWith pos f first (backTo pos (starEach [] X.env)) (backToKw pos (keywordEach [] X.env))) := by rfl) : PE X (.Call (.Attribute o m apos) [] [] pos) (tMeth C m sp [] E0 ta tNil) := by
  obtain ⟨f, fd, F, hc, hm, hb⟩ := c.ex
  exact pe_meth0 he hc hm F (hr.mono hk) hb .nil pass0 ht
theorem call_rep (c : MethT X.prog X.w X.K X.mg X.base k C "__repr__" sp) (hr : Room j X.A) (hk : k + 1 ≤ j) : CallR X (.builtin "repr") (rReprO C sp) := by
  obtain ⟨f, fd, F, hc, hm, hb⟩ := c.ex
  exact call_rReprO hm.at_ hm.fn F hb (hr.mono hk)
theorem r_meth {σ : L2.St} {H : Hp} {Q : VK} {dvs : List V} {E : XK} {t : TA} (h : ta σ H fun x H1 => ∃ a dx fs, x = .ref a ∧ H1 a = some (.ins C dx fs) ∧ fs.lookup m = none ∧ t σ H1 fun vs H2 => sp (x :: (vs ++ dvs)) H2 Q E) : tMeth C m sp dvs E ta t σ H Q := h
theorem r_con {σ : L2.St} {K : PySem.W.Frag} {H : Hp} {Q : VK} {f : Str} (h : ta σ H fun x H1 => ∃ a C dx fs v u, x = .ref a ∧ H1 a = some (.ins C dx fs) ∧ Cls K C ∧ Con K C f v u ∧ fs.lookup f = none ∧ Q v H1) : tCon K ta f σ H Q := h
theorem r_dget {σ : L2.St} {td ty : TE} {H : Hp} {Q : VK} (h : td σ H fun x H1 => ty σ H1 fun y H2 => ∃ a v, x = .ref a ∧ DGet H2 a y (some v) ∧ Q v H2) : tDGet td ty σ H Q := h
theorem r_disp {σ : L2.St} {H : Hp} {Q : VK} {trs : List (TE × TE)} (h : ∀ p, H p = none → tPairs trs σ (upd H p (.dK [])) fun ps H2 => H2 p = some (.dK []) ∧ ∃ kvs : List (Key × V), ps = kvs.map (fun kv => (kV kv.1, kv.2)) ∧ kvs.length ≤ 15 ∧ Q (.ref p) (upd H2 p (.dK (mergeK [] kvs)))) : tDisp trs σ H Q := h
end
end Th
namespace Th
open PySem PySem.Spec PyProof.Rows L2
local macro_rules | `(tactic| walk_at "lk") => `(tactic| first
  | assumption
  | exact upd_same
  | (refine upd_old (by assumption) ?_; walk_at "lk")
  | (refine upd_diff (by assumption) ?_; walk_at "lk")
  | (refine upd_diff (Ne.symm (by assumption)) ?_; walk_at "lk"))
local macro_rules | `(tactic| walk_at "cnd") => `(tactic| first
  | omega
  | (refine ⟨by omega, by omega⟩)
  | (refine ⟨by omega, by omega, by omega⟩)
  | (refine .inl ⟨by omega, by omega⟩)
  | (refine .inr ⟨by omega, by omega⟩)
  | (exact (show CPow _ _ from ⟨by decide, by decide, by omega⟩))
  | decide +kernel
  | (unfold CMulW; decide +kernel)
  | (exact wide_div (b := 64) (by omega) (by omega) (by decide) (by decide)))
local macro_rules | `(tactic| walk_at "rd1") => `(tactic| first
  | (with_reducible refine r_seq ?_)
  | (with_reducible refine r_asg ?_)
  | (with_reducible refine r_ret ?_)
  | (with_reducible refine r_if ?_)
  | (with_reducible refine r_gname ?_)
  | ((with_reducible refine' r_var ?hv ?_); (case hv => exact rfl))
  | (with_reducible refine r_c ?_)
  | (with_reducible refine r_op ?_)
  | (with_reducible refine r_I0 ?_)
  | ((with_reducible refine r_I ?hc ?_); (case hc => walk_at "cnd"))
  | (with_reducible refine r_test ?_)
  | (with_reducible refine r_tB ?_)
  | (with_reducible refine r_bl ?_)
  | (with_reducible refine r_not ?_)
  | (with_reducible refine r_and ?_)
  | (with_reducible refine r_or ?_)
  | (with_reducible refine r_ifE ?_)
  | (with_reducible refine r_notV ?_)
  | (with_reducible refine r_andV ?_)
  | (with_reducible refine r_orV ?_)
  | (with_reducible refine r_chain ?_)
  | (with_reducible refine r_cb ?_)
  | (with_reducible refine r_call ?_)
  | (with_reducible refine r_callN ?_)
  | (with_reducible refine r_nil ?_)
  | (with_reducible refine r_cons ?_)
  | ((with_reducible refine r_lst ?_))
  | ((with_reducible refine r_tup ?_))
  | ((with_reducible refine r_new ?_ ?_); (exact Nat.le_of_ble_eq_true rfl); (intro p hp))
  | (with_reducible refine r_rInt1 ?_)
  | (with_reducible refine r_rIntB ?_)
  | (with_reducible refine r_rAbs ?_)
  | (with_reducible refine r_rMin2 ?_)
  | (with_reducible refine r_rMax2 ?_)
  | ((with_reducible refine r_rLenZ ?hz ?_); (case hz => first | assumption | exact Nat.le_of_ble_eq_true rfl | (refine Nat.le_trans ?_ (by decide : 100000 ≤ sizeLine); omega)))
  | ((with_reducible refine r_addZ ?hz ?_); (case hz => (refine Nat.le_trans ?_ (by decide : 100000 ≤ sizeLine); first | omega | (simp only [Str.length] at *; simp; omega))))
  | ((with_reducible refine r_mulZ ?hz ?h0 ?h1 ?_); (case hz => first | omega | exact Nat.le_of_ble_eq_true rfl); (case h0 => omega); (case h1 => omega))
  | ((with_reducible refine' r_rLenQ ?h1 ?_); (case h1 => first | (exact .inl (by assumption)) | (exact .inr (by assumption)) | (exact .inl (SqL.of (by walk_at "lk"))) | (exact .inr (SqT.of (by walk_at "lk")))))
  | ((with_reducible refine r_eq ?hs ?_); (case hs => exact rfl))
  | ((with_reducible refine r_ne ?hs ?_); (case hs => exact rfl))
  | (with_reducible refine r_inC ?_)
  | ((with_reducible refine' r_cat ?h1 ?h2 ?h3 ?_); (case h1 => walk_at "lk"); (case h2 => walk_at "lk"); (case h3 => exact Nat.le_of_ble_eq_true rfl); (intro p hp))
  | ((with_reducible refine' r_rep ?h1 ?h2 ?h3 ?h4 ?_); (case h1 => walk_at "lk"); (case h2 => omega); (case h3 => omega); (case h4 => exact Nat.le_of_ble_eq_true rfl); (intro p hp))
  | ((with_reducible refine' r_append ?h1 ?h2 ?_); (case h1 => walk_at "lk"); (case h2 => first | exact (show _ + 1 ≤ sizeLine from Nat.le_of_ble_eq_true rfl) | exact Nat.lt_of_le_of_lt (by omega : _ ≤ 100000) (by decide)))
  | (with_reducible refine r_bm ?_)
  | ((with_reducible refine' r_tyL ?h1 ?_); (case h1 => walk_at "lk"))
  | ((with_reducible refine' r_ixL ?h1 ?h2 ?_); (case h1 => first | assumption | exact SqL.of (by walk_at "lk")); (case h2 => exact rfl))
  | ((with_reducible refine' r_ixT ?h1 ?h2 ?_); (case h1 => first | assumption | exact SqT.of (by walk_at "lk")); (case h2 => exact rfl))
  | (with_reducible refine r_gsub ?_)
  | ((with_reducible refine' r_setL ?h1 ?h2 ?_); (case h1 => walk_at "lk"); (case h2 => exact rfl))
  | (with_reducible refine r_un ?_)
  | (with_reducible refine r_neg ?_)
  | (with_reducible refine r_iteT ?_)
  | (with_reducible refine r_iteNT ?_)
  | (with_reducible refine r_iteNF ?_)
  | (with_reducible refine r_iteF ?_)
  | (with_reducible refine r_next ?_)
  | (with_reducible refine r_drop ?_)
  | (with_reducible refine r_cont ?_)
  | (with_reducible refine r_brk ?_))
local macro_rules | `(tactic| walk_at "ty") => `(tactic| first
  | assumption
  | exact .base (.int _)
  | exact .base (.str _)
  | exact .base (.bl _)
  | exact .base .non
  | exact .byt _
  | exact .base (.lst (by walk_at "lk"))
  | exact .base (.tup (by walk_at "lk")))
local macro_rules | `(tactic| walk_at "rd2") => `(tactic| first
  | walk_at "rd1"
  | ((with_reducible refine' r_isi true ?ht ?hk ?_); (case ht => walk_at "ty"); (case hk => first | assumption | decide +kernel))
  | ((with_reducible refine' r_isi false ?ht ?hk ?_); (case ht => walk_at "ty"); (case hk => first | assumption | decide +kernel))
  | ((with_reducible refine' r_isiT2 true true ?hT ?ht ?hk ?hk2 ?_); (case hT => walk_at "lk"); (case ht => walk_at "ty"); (case hk => decide +kernel); (case hk2 => decide +kernel))
  | ((with_reducible refine' r_isiT2 true false ?hT ?ht ?hk ?hk2 ?_); (case hT => walk_at "lk"); (case ht => walk_at "ty"); (case hk => decide +kernel); (case hk2 => decide +kernel))
  | ((with_reducible refine' r_isiT2 false true ?hT ?ht ?hk ?hk2 ?_); (case hT => walk_at "lk"); (case ht => walk_at "ty"); (case hk => decide +kernel); (case hk2 => decide +kernel))
  | ((with_reducible refine' r_isiT2 false false ?hT ?ht ?hk ?hk2 ?_); (case hT => walk_at "lk"); (case ht => walk_at "ty"); (case hk => decide +kernel); (case hk2 => decide +kernel))
  | (with_reducible refine r_iteNT ?_)
  | ((show (if (!true) = true then _ else _)); refine r_iteNT ?_)
  | (with_reducible refine r_r1 ?_)
  | (with_reducible refine r_maks ?_)
  | (with_reducible refine r_sfld ?_)
  | ((with_reducible refine' r_sfldE ?h1 ?h2 ?h3 ?h4 ?_); (case h1 => walk_at "lk"); (case h2 => assumption); (case h3 => assumption); (case h4 => exact (show _ + 1 ≤ 1000 from Nat.le_of_ble_eq_true rfl)))
  | (with_reducible refine r_fld ?_)
  | (with_reducible refine r_join ?_)
  | (with_reducible refine r_jcons ?_)
  | (with_reducible refine r_jnil ?_)
  | ((with_reducible refine r_rLenY ?hz ?_); (case hz => first | assumption | (refine Nat.le_trans ?_ (by decide : 100000 ≤ sizeLine); omega)))
  | (with_reducible refine r_par ?_)
  | (with_reducible refine r_pair ?_)
  | (with_reducible refine r_par3 ?_)
  | (with_reducible refine r_trip ?_)
  | ((with_reducible refine' r_gtup ?h1 ?h2 ?_); (case h1 => first | assumption | exact SqT.of (by walk_at "lk")); (case h2 => exact rfl))
  | (with_reducible refine r_gcons ?_)
  | (with_reducible refine r_gnil ?_)
  | ((with_reducible refine' r_slL ?h1 ?_); (case h1 => first | assumption | exact SqL.of (by walk_at "lk")); (intro p hp))
  | (with_reducible refine r_iTup ?_)
  | ((with_reducible refine' r_tupE ?h1 ?_); (case h1 => first | assumption | exact SqT.of (by walk_at "lk")))
  | (with_reducible refine r_m1 ?_)
  | (with_reducible refine r_isZ ?_)
  | (with_reducible refine r_sl ?_)
  | (with_reducible refine r_noPart ?_)
  | (with_reducible refine r_part ?_)
  | (with_reducible refine r_partE ?_)
  | ((with_reducible refine r_slS ?hz ?_); (case hz => first | assumption | (refine Nat.le_trans ?_ (by decide : 100000 ≤ sizeLine); omega)))
  | ((with_reducible refine' r_inT ?h1 ?h2 ?h3 ?_); (case h1 => first | assumption | (exact SqT.of (by walk_at "lk"))); (case h2 => exact rfl); (case h3 => exact rfl))
  | ((with_reducible refine' r_inL ?h1 ?h2 ?h3 ?_); (case h1 => first | assumption | (exact SqL.of (by walk_at "lk"))); (case h2 => exact rfl); (case h3 => exact rfl))
  | (with_reducible refine r_lc ?_)
  | (with_reducible refine r_for ?_)
  | (with_reducible refine r_iStr ?_)
  | (with_reducible refine r_strE ?_)
  | (with_reducible refine r_iList ?_)
  | ((with_reducible refine' r_listE ?h1 ?_); (case h1 => first | assumption | exact SqL.of (by walk_at "lk")))
  | (with_reducible refine r_iRng1 ?_)
  | ((with_reducible refine' r_rngE ?h0 ?h1 ?_); (case h0 => first | omega | (split <;> omega)); (case h1 => first | omega | (split <;> omega))))
local macro_rules | `(tactic| walk_at "rd") => `(tactic| (repeat walk_at "rd2"))
local macro_rules | `(tactic| walk_at "st") => `(tactic| (repeat (first
  | (with_reducible refine r_gname ?_)
  | (with_reducible refine r_next ?_)
  | (with_reducible refine r_seq ?_)
  | (with_reducible refine r_asg ?_)
  | (with_reducible refine r_ret ?_)
  | (with_reducible refine r_for ?_)
  | (with_reducible refine r_iRng1 ?_)
  | (with_reducible refine r_iList ?_)
  | (with_reducible refine r_cons ?_)
  | (with_reducible refine r_par ?_)
  | (with_reducible refine r_par3 ?_))))
structure CF (K : PySem.W.Frag) (C aM : Addr) (kind : Str) : Prop where
  cl : Cls K C
  ha : PySem.W.findIn K (.ref C) "__class__" = some (some (.builtin "object.__class__"))
  hn : PySem.W.specialIn K (.builtin "object.__class__") "__get__" = some (some (.builtin "getset_descriptor.__get__"))
  htk : PySem.W.takesIn K (.builtin "object.__class__") = some true
  hm : PySem.W.mroIn K C (.type "object") = some true
  kit : PySem.W.kitOne K (.ref C) (.ref aM) = some true
  con : ∃ u, Con K C "KIND" (.str kind) u
  n1 : NoAttr K C "name"
  n2 : NoAttr K C "mode"
  n3 : NoAttr K C "time"
theorem r_pcons {σ : L2.St} {tk tv : TE} {r : List (TE × TE)} {H : Hp} {Q : List (V × V) → Hp → Prop} (h : tk σ H fun x H1 => tv σ H1 fun y H2 => tPairs r σ H2 fun ps H3 => Q ((x, y) :: ps) H3) : tPairs ((tk, tv) :: r) σ H Q := h
theorem r_pnil {σ : L2.St} {H : Hp} {Q : List (V × V) → Hp → Prop} (h : Q [] H) : tPairs [] σ H Q := h
theorem r_isiO {K : PySem.W.Frag} {C aM a dx : Addr} {kind : Str} {fs : List (Str × V)} {H : Hp} {Q : VK} (c : CF K C aM kind) (h1 : H a = some (.ins C dx fs)) (h : Q (.bl true) H) : rIsi K [.ref a, .ref aM] H Q :=
  ⟨.ref a, .ref aM, .ref C, .ref aM, true, rfl, .own aM, .base (.ins h1 c.cl c.ha c.hn c.htk c.hm), c.kit, h⟩
theorem r_neS {K : PySem.W.Frag} {H : Hp} {Q : VK} {x y : V} {d : PyData} (hx : Dp K H x d) (hy : Dp K H y d) (hs : SeqAt.shaped d = true) (hp : PyData.eqv d d = true) (h : Q (.bl false) H) : rNeD K x y H Q := by
  refine ⟨d, d, hx, hy, hs, hs, ?_⟩
  rw [hp]
  exact h
theorem dp_one {K : PySem.W.Frag} {H : Hp} {a : Addr} {xs : List V} {ds : List PyData} (h : H a = some (.lst xs)) (hs : DpAll K H xs ds) : Dp K H (.ref a) (.list ds) := .lst (SqL.of h) hs
theorem head_dp {K : PySem.W.Frag} {H : Hp} {kind n : Str} {b t : Int} : DpAll K H [.str kind, .str n, .int b, .int t] [.str kind, .str n, .int b, .int t] := .cons (.str _) (.cons (.str _) (.cons (.int _) (.cons (.int _) .nil)))
theorem head_eqv {kind n : Str} {b t : Int} : PyData.eqv (.list [.str kind, .str n, .int b, .int t]) (.list [.str kind, .str n, .int b, .int t]) = true := by
  simp [PyData.eqv, PyData.eqvAll]
theorem nc_small : ∀ c ∈ NC.cps.toList, c < 0x110000 := by decide +kernel
theorem strOk_name {z : Str} (h : charsB z = true) : PyData.strOk z = true := by
  unfold charsB at h
  rw [List.all_eq_true] at h
  unfold PyData.strOk
  rw [← Array.all_toList, List.all_eq_true]
  intro c hc
  exact decide_eq_true (nc_small c (of_decide_eq_true (h c hc)))
theorem head_shaped {kind n : Str} {b t : Int} (hk : PyData.strOk kind = true) (hn : PyData.strOk n = true) : SeqAt.shaped (.list [.str kind, .str n, .int b, .int t]) = true := by
  simp [SeqAt.shaped, PyData.canLay0, PyData.canLayAll0, PyData.depth, PyData.depthAll, hk, hn]
theorem tl1 {T : Str} (hT : T.length ≤ 20) : T.length + ("('" : Str).length ≤ sizeLine := Nat.le_trans (by have l1 : ("('" : Str).length = 2 := rfl; omega : _ ≤ 1000) (by decide)
theorem tl2 {T n : Str} (hT : T.length ≤ 20) (hn : n.length ≤ 250) : (T ++ ("('" : Str)).length + n.length ≤ sizeLine := Nat.le_trans (by have l1 : ("('" : Str).length = 2 := rfl; rw [add_len]; omega : _ ≤ 1000) (by decide)
theorem tl3 {T n : Str} (hT : T.length ≤ 20) (hn : n.length ≤ 250) : (T ++ ("('" : Str) ++ n).length + ("')" : Str).length ≤ sizeLine := Nat.le_trans (by have l1 : ("('" : Str).length = 2 := rfl; have l2 : ("')" : Str).length = 2 := rfl; rw [add_len, add_len]; omega : _ ≤ 1000) (by decide)
theorem r_neT {H : Hp} {Q : VK} {T n : Str} (h : Q (.bl false) H) : rNe (.str (titled T n)) (.str (T ++ "('" ++ n ++ "')")) H Q := by
  refine r_ne rfl ?_
  have e : titled T n = T ++ "('" ++ n ++ "')" := by
    unfold titled
    show Str.mk (T.cps ++ ((#[40, 39] ++ n.cps) ++ #[39, 41])) = Str.mk (((T.cps ++ #[40, 39]) ++ n.cps) ++ #[39, 41])
    simp
  rw [e]
  simp only [decide_true, Bool.not_true]
  exact h
theorem dpa_ints {K : PySem.W.Frag} {H : Hp} : ∀ ns : List Int, DpAll K H (ns.map V.int) (ns.map PyData.int)
  | [] => .nil
  | n :: r => .cons (.int n) (dpa_ints r)
theorem ints_lay : ∀ ns : List Int, PyData.canLayAll0 (ns.map PyData.int) = true ∧ PyData.depthAll (ns.map PyData.int) = 0
  | [] => by simp [PyData.canLayAll0, PyData.depthAll]
  | n :: r => by
    have ih := ints_lay r
    simp [PyData.canLayAll0, PyData.depthAll, PyData.canLay0, PyData.depth, ih.1, ih.2]
theorem ints_shaped (ns : List Int) : SeqAt.shaped (.list (ns.map PyData.int)) = true := by
  simp [SeqAt.shaped, PyData.canLay0, PyData.depth, (ints_lay ns).1, (ints_lay ns).2]
theorem ints_eqvA : ∀ ns : List Int, PyData.eqvAll (ns.map PyData.int) (ns.map PyData.int) = true
  | [] => by simp [PyData.eqvAll]
  | n :: r => by simp [PyData.eqvAll, PyData.eqv, ints_eqvA r]
theorem ints_eqv (ns : List Int) : PyData.eqv (.list (ns.map PyData.int)) (.list (ns.map PyData.int)) = true := by
  simp [PyData.eqv, ints_eqvA]
theorem r_neI {K : PySem.W.Frag} {H : Hp} {Q : VK} {a b : Addr} {ns : List Int} (ha : H a = some (.lst (ns.map V.int))) (hb : H b = some (.lst (ns.map V.int))) (h : Q (.bl false) H) : rNeD K (.ref a) (.ref b) H Q :=
  r_neS (dp_one ha (dpa_ints ns)) (dp_one hb (dpa_ints ns)) (ints_shaped ns) (ints_eqv ns) h
def pcD (s : Int × List Int) : PyData := .tuple [.int s.1, .list (s.2.map PyData.int)]
theorem dpa_pcs {K : PySem.W.Frag} {H : Hp} {R : Addr → Int × List Int → Prop} (hR : ∀ q s, R q s → ∃ e, H q = some (.tup [.int s.1, .ref e]) ∧ H e = some (.lst (s.2.map V.int))) : ∀ {bs : List Addr} {sp : List (Int × List Int)}, Paired R bs sp → DpAll K H (bs.map V.ref) (sp.map pcD) := by
  intro bs sp h
  induction h with
  | nil => exact .nil
  | cons r _ ih =>
    obtain ⟨e, h1, h2⟩ := hR _ _ r
    exact .cons (.tup (SqT.of h1) (.cons (.int _) (.cons (dp_one h2 (dpa_ints _)) .nil))) ih
theorem pcs_lay : ∀ sp : List (Int × List Int), PyData.canLayAll0 (sp.map pcD) = true ∧ PyData.depthAll (sp.map pcD) ≤ 2 ∧ PyData.eqvAll (sp.map pcD) (sp.map pcD) = true
  | [] => by simp [PyData.canLayAll0, PyData.depthAll, PyData.eqvAll]
  | s :: r => by
    obtain ⟨h1, h2, h3⟩ := pcs_lay r
    obtain ⟨g1, g2⟩ := ints_lay s.2
    refine ⟨?_, ?_, ?_⟩
    · simp [pcD, PyData.canLayAll0, PyData.canLay0, g1, h1]
    · simp [pcD, PyData.depthAll, PyData.depth, g2, h2]
    · simp [pcD, PyData.eqvAll, PyData.eqv, ints_eqvA, h3]
theorem r_eqP {K : PySem.W.Frag} {H : Hp} {Q : VK} {a b : Addr} {as bs : List Addr} {sp : List (Int × List Int)} {R S : Addr → Int × List Int → Prop} (hR : ∀ q s, R q s → ∃ e, H q = some (.tup [.int s.1, .ref e]) ∧ H e = some (.lst (s.2.map V.int)))
    (hS : ∀ q s, S q s → ∃ e, H q = some (.tup [.int s.1, .ref e]) ∧ H e = some (.lst (s.2.map V.int))) (ha : H a = some (.lst (as.map V.ref))) (hb : H b = some (.lst (bs.map V.ref))) (h1 : Paired R as sp) (h2 : Paired S bs sp) (h : Q (.bl true) H) : rEqD K (.ref a) (.ref b) H Q := by
  obtain ⟨l1, l2, l3⟩ := pcs_lay sp
  have hc : PyData.canLay0 (.list (sp.map pcD)) = true := by
    simp only [PyData.canLay0]
    exact l1
  have hd : PyData.depth (.list (sp.map pcD)) ≤ 64 := by
    simp only [PyData.depth]
    omega
  have hs : SeqAt.shaped (.list (sp.map pcD)) = true := Bool.and_eq_true_iff.mpr ⟨hc, decide_eq_true hd⟩
  refine ⟨_, _, dp_one ha (dpa_pcs hR h1), dp_one hb (dpa_pcs hS h2), hs, hs, ?_⟩
  have he : PyData.eqv (.list (sp.map pcD)) (.list (sp.map pcD)) = true := by
    simp [PyData.eqv, l3]
  rw [he]
  exact h
/-! ### constants read off a class -/
theorem pe_cvalN {X : Cx} (K : PySem.W.Frag) {e : Expr} {f : Str} {pos : Pos} {ta : TE} (he : PE X e ta) (hb : attributeBase e f X.env (eval e X.env) = eval e X.env := by rfl) (h : X.K = K := by rfl) : PE X (.Attribute e f pos) (ClX.tCVal K ta f) := h ▸ ClX.pe_cval he hb
theorem pe_fldN {X : Cx} (K : PySem.W.Frag) {e : Expr} {f : Str} {pos : Pos} {ta : TE} (he : PE X e ta) (hb : attributeBase e f X.env (eval e X.env) = eval e X.env := by rfl) (h : X.K = K := by rfl) : PE X (.Attribute e f pos) (tFld K ta f) := h ▸ pe_fld he hb
theorem r_cval {K : PySem.W.Frag} {ta : TE} {f : Str} {σ : L2.St} {H : Hp} {Q : VK} (h : ta σ H fun x H1 => ∃ C mc v u, x = .ref C ∧ ClX.CRead K C mc ∧ ClX.CVal K C mc f v u ∧ Q v H1) : ClX.tCVal K ta f σ H Q := h
structure KindF (K : PySem.W.Frag) (C : Addr) (z : Str) : Prop where
  ex : ∃ mc u, ClX.CRead K C mc ∧ ClX.CVal K C mc "KIND" (.str z) u
theorem r_kind {K : PySem.W.Frag} {C : Addr} {z : Str} {R : V → Prop} (k : KindF K C z) (h : R (.str z)) : ∃ D mc v u, V.ref C = .ref D ∧ ClX.CRead K D mc ∧ ClX.CVal K D mc "KIND" v u ∧ R v := by
  obtain ⟨mc, u, h1, h2⟩ := k.ex
  exact ⟨C, mc, _, u, rfl, h1, h2, h⟩
end Th
namespace Th
open PySem PySem.Spec PyProof.Rows L2
local macro_rules | `(tactic| walk_at "lk") => `(tactic| first
  | assumption
  | exact upd_same
  | (refine upd_old (by assumption) ?_; walk_at "lk")
  | (refine upd_diff (by assumption) ?_; walk_at "lk")
  | (refine upd_diff (Ne.symm (by assumption)) ?_; walk_at "lk"))
local macro_rules | `(tactic| walk_at "cnd") => `(tactic| first
  | omega
  | (refine ⟨by omega, by omega⟩)
  | (refine ⟨by omega, by omega, by omega⟩)
  | (refine .inl ⟨by omega, by omega⟩)
  | (refine .inr ⟨by omega, by omega⟩)
  | (exact (show CPow _ _ from ⟨by decide, by decide, by omega⟩))
  | decide +kernel
  | (unfold CMulW; decide +kernel)
  | (exact wide_div (b := 64) (by omega) (by omega) (by decide) (by decide)))
local macro_rules | `(tactic| walk_at "rd1") => `(tactic| first
  | (with_reducible refine r_seq ?_)
  | (with_reducible refine r_asg ?_)
  | (with_reducible refine r_ret ?_)
  | (with_reducible refine r_if ?_)
  | (with_reducible refine r_gname ?_)
  | ((with_reducible refine' r_var ?hv ?_); (case hv => exact rfl))
  | (with_reducible refine r_c ?_)
  | (with_reducible refine r_op ?_)
  | (with_reducible refine r_I0 ?_)
  | ((with_reducible refine r_I ?hc ?_); (case hc => walk_at "cnd"))
  | (with_reducible refine r_test ?_)
  | (with_reducible refine r_tB ?_)
  | (with_reducible refine r_bl ?_)
  | (with_reducible refine r_not ?_)
  | (with_reducible refine r_and ?_)
  | (with_reducible refine r_or ?_)
  | (with_reducible refine r_ifE ?_)
  | (with_reducible refine r_notV ?_)
  | (with_reducible refine r_andV ?_)
  | (with_reducible refine r_orV ?_)
  | (with_reducible refine r_chain ?_)
  | (with_reducible refine r_cb ?_)
  | (with_reducible refine r_call ?_)
  | (with_reducible refine r_callN ?_)
  | (with_reducible refine r_nil ?_)
  | (with_reducible refine r_cons ?_)
  | ((with_reducible refine r_lst ?_))
  | ((with_reducible refine r_tup ?_))
  | ((with_reducible refine r_new ?_ ?_); (exact Nat.le_of_ble_eq_true rfl); (intro p hp))
  | (with_reducible refine r_rInt1 ?_)
  | (with_reducible refine r_rIntB ?_)
  | (with_reducible refine r_rAbs ?_)
  | (with_reducible refine r_rMin2 ?_)
  | (with_reducible refine r_rMax2 ?_)
  | ((with_reducible refine r_rLenZ ?hz ?_); (case hz => first | assumption | exact Nat.le_of_ble_eq_true rfl | (refine Nat.le_trans ?_ (by decide : 100000 ≤ sizeLine); omega)))
  | ((with_reducible refine r_addZ ?hz ?_); (case hz => (refine Nat.le_trans ?_ (by decide : 100000 ≤ sizeLine); first | omega | (simp only [Str.length] at *; simp; omega))))
  | ((with_reducible refine r_mulZ ?hz ?h0 ?h1 ?_); (case hz => first | omega | exact Nat.le_of_ble_eq_true rfl); (case h0 => omega); (case h1 => omega))
  | ((with_reducible refine' r_rLenQ ?h1 ?_); (case h1 => first | (exact .inl (by assumption)) | (exact .inr (by assumption)) | (exact .inl (SqL.of (by walk_at "lk"))) | (exact .inr (SqT.of (by walk_at "lk")))))
  | ((with_reducible refine r_eq ?hs ?_); (case hs => exact rfl))
  | ((with_reducible refine r_ne ?hs ?_); (case hs => exact rfl))
  | (with_reducible refine r_inC ?_)
  | ((with_reducible refine' r_cat ?h1 ?h2 ?h3 ?_); (case h1 => walk_at "lk"); (case h2 => walk_at "lk"); (case h3 => exact Nat.le_of_ble_eq_true rfl); (intro p hp))
  | ((with_reducible refine' r_rep ?h1 ?h2 ?h3 ?h4 ?_); (case h1 => walk_at "lk"); (case h2 => omega); (case h3 => omega); (case h4 => exact Nat.le_of_ble_eq_true rfl); (intro p hp))
  | ((with_reducible refine' r_append ?h1 ?h2 ?_); (case h1 => walk_at "lk"); (case h2 => first | exact (show _ + 1 ≤ sizeLine from Nat.le_of_ble_eq_true rfl) | exact Nat.lt_of_le_of_lt (by omega : _ ≤ 100000) (by decide)))
  | (with_reducible refine r_bm ?_)
  | ((with_reducible refine' r_tyL ?h1 ?_); (case h1 => walk_at "lk"))
  | ((with_reducible refine' r_ixL ?h1 ?h2 ?_); (case h1 => first | assumption | exact SqL.of (by walk_at "lk")); (case h2 => exact rfl))
  | ((with_reducible refine' r_ixT ?h1 ?h2 ?_); (case h1 => first | assumption | exact SqT.of (by walk_at "lk")); (case h2 => exact rfl))
  | (with_reducible refine r_gsub ?_)
  | ((with_reducible refine' r_setL ?h1 ?h2 ?_); (case h1 => walk_at "lk"); (case h2 => exact rfl))
  | (with_reducible refine r_un ?_)
  | (with_reducible refine r_neg ?_)
  | (with_reducible refine r_iteT ?_)
  | (with_reducible refine r_iteNT ?_)
  | (with_reducible refine r_iteNF ?_)
  | (with_reducible refine r_iteF ?_)
  | (with_reducible refine r_next ?_)
  | (with_reducible refine r_drop ?_)
  | (with_reducible refine r_cont ?_)
  | (with_reducible refine r_brk ?_))
local macro_rules | `(tactic| walk_at "ty") => `(tactic| first
  | assumption
  | exact .base (.int _)
  | exact .base (.str _)
  | exact .base (.bl _)
  | exact .base .non
  | exact .byt _
  | exact .base (.lst (by walk_at "lk"))
  | exact .base (.tup (by walk_at "lk")))
local macro_rules | `(tactic| walk_at "rd2") => `(tactic| first
  | walk_at "rd1"
  | ((with_reducible refine' r_isi true ?ht ?hk ?_); (case ht => walk_at "ty"); (case hk => first | assumption | decide +kernel))
  | ((with_reducible refine' r_isi false ?ht ?hk ?_); (case ht => walk_at "ty"); (case hk => first | assumption | decide +kernel))
  | ((with_reducible refine' r_isiT2 true true ?hT ?ht ?hk ?hk2 ?_); (case hT => walk_at "lk"); (case ht => walk_at "ty"); (case hk => decide +kernel); (case hk2 => decide +kernel))
  | ((with_reducible refine' r_isiT2 true false ?hT ?ht ?hk ?hk2 ?_); (case hT => walk_at "lk"); (case ht => walk_at "ty"); (case hk => decide +kernel); (case hk2 => decide +kernel))
  | ((with_reducible refine' r_isiT2 false true ?hT ?ht ?hk ?hk2 ?_); (case hT => walk_at "lk"); (case ht => walk_at "ty"); (case hk => decide +kernel); (case hk2 => decide +kernel))
  | ((with_reducible refine' r_isiT2 false false ?hT ?ht ?hk ?hk2 ?_); (case hT => walk_at "lk"); (case ht => walk_at "ty"); (case hk => decide +kernel); (case hk2 => decide +kernel))
  | (with_reducible refine r_iteNT ?_)
  | ((show (if (!true) = true then _ else _)); refine r_iteNT ?_)
  | (with_reducible refine r_r1 ?_)
  | (with_reducible refine r_maks ?_)
  | (with_reducible refine r_sfld ?_)
  | ((with_reducible refine' r_sfldE ?h1 ?h2 ?h3 ?h4 ?_); (case h1 => walk_at "lk"); (case h2 => assumption); (case h3 => assumption); (case h4 => exact (show _ + 1 ≤ 1000 from Nat.le_of_ble_eq_true rfl)))
  | (with_reducible refine r_fld ?_)
  | (with_reducible refine r_join ?_)
  | (with_reducible refine r_jcons ?_)
  | (with_reducible refine r_jnil ?_)
  | ((with_reducible refine r_rLenY ?hz ?_); (case hz => first | assumption | (refine Nat.le_trans ?_ (by decide : 100000 ≤ sizeLine); omega)))
  | (with_reducible refine r_par ?_)
  | (with_reducible refine r_pair ?_)
  | (with_reducible refine r_par3 ?_)
  | (with_reducible refine r_trip ?_)
  | ((with_reducible refine' r_gtup ?h1 ?h2 ?_); (case h1 => first | assumption | exact SqT.of (by walk_at "lk")); (case h2 => exact rfl))
  | (with_reducible refine r_gcons ?_)
  | (with_reducible refine r_gnil ?_)
  | ((with_reducible refine' r_slL ?h1 ?_); (case h1 => first | assumption | exact SqL.of (by walk_at "lk")); (intro p hp))
  | (with_reducible refine r_iTup ?_)
  | ((with_reducible refine' r_tupE ?h1 ?_); (case h1 => first | assumption | exact SqT.of (by walk_at "lk")))
  | (with_reducible refine r_m1 ?_)
  | (with_reducible refine r_isZ ?_)
  | (with_reducible refine r_sl ?_)
  | (with_reducible refine r_noPart ?_)
  | (with_reducible refine r_part ?_)
  | (with_reducible refine r_partE ?_)
  | ((with_reducible refine r_slS ?hz ?_); (case hz => first | assumption | (refine Nat.le_trans ?_ (by decide : 100000 ≤ sizeLine); omega)))
  | ((with_reducible refine' r_inT ?h1 ?h2 ?h3 ?_); (case h1 => first | assumption | (exact SqT.of (by walk_at "lk"))); (case h2 => exact rfl); (case h3 => exact rfl))
  | ((with_reducible refine' r_inL ?h1 ?h2 ?h3 ?_); (case h1 => first | assumption | (exact SqL.of (by walk_at "lk"))); (case h2 => exact rfl); (case h3 => exact rfl))
  | (with_reducible refine r_lc ?_)
  | (with_reducible refine r_for ?_)
  | (with_reducible refine r_iStr ?_)
  | (with_reducible refine r_strE ?_)
  | (with_reducible refine r_iList ?_)
  | ((with_reducible refine' r_listE ?h1 ?_); (case h1 => first | assumption | exact SqL.of (by walk_at "lk")))
  | (with_reducible refine r_iRng1 ?_)
  | ((with_reducible refine' r_rngE ?h0 ?h1 ?_); (case h0 => first | omega | (split <;> omega)); (case h1 => first | omega | (split <;> omega))))
local macro_rules | `(tactic| walk_at "rd") => `(tactic| (repeat walk_at "rd2"))
local macro_rules | `(tactic| walk_at "st") => `(tactic| (repeat (first
  | (with_reducible refine r_gname ?_)
  | (with_reducible refine r_next ?_)
  | (with_reducible refine r_seq ?_)
  | (with_reducible refine r_asg ?_)
  | (with_reducible refine r_ret ?_)
  | (with_reducible refine r_for ?_)
  | (with_reducible refine r_iRng1 ?_)
  | (with_reducible refine r_iList ?_)
  | (with_reducible refine r_cons ?_)
  | (with_reducible refine r_par ?_)
  | (with_reducible refine r_par3 ?_))))
/-! ### == and != of an object by its class's own __eq__, and `in` where the object stands on the right -/
namespace EqX
open PySem PySem.W PyProof.Rows
theorem slot_ne : Slot "object" "__ne__" "object.__ne__" := F.cmp_object.ne
section
variable {prog : Program} {w : World} {A : Around} {E : Value → Shared → Prop} {s : Shared} {K : PySem.W.Frag} {x C f : Addr} {ox : Obj} {od : Option Obj} {b : Value}
theorem objNe_own (hu : A.units < cLine) (X : K.In s.heap) (I : InstAt s.heap x ox C od) (hs : findIn K (.ref C) "__eq__" = some (some (.ref f))) (hf : isFn K (.ref f) = true) {Q : Fin → Shared → Prop}
    (h : wpAny (model prog w) A (call (.ref f) [.ref x, b]) (fun v s' => ∃ r, v = .bool r ∧ Q (.done (.ret (.bool (!r)))) s') E s) :
    wpAny (model prog w) A (Builtin.«object.__ne__» ⟨[.ref x, b], []⟩) Q E s := by
  obtain ⟨h0, g, d, t, os⟩ := s
  unfold Builtin.«object.__ne__»
  repeat (first
    | with_reducible refine wpAny_cRoomFor hu ?_
    | (refine wpAny_bind (m := callSpecialIfBound? (.ref x) (Str.ofString "__eq__") [b])
        (ifBound_K X I hs hf (wpAny_mono h (fun r s' hr => by
          obtain ⟨c, rfl, hq⟩ := hr
          repeat (first | exact hq | exact wpAny_pure hq | exact wpAny_truthy_bool hq | (refine wpAny_bind (m := truthy (.bool _)) (wpAny_truthy_bool ?_)) | wp_step)) fun _ _ e => e)))
    | wp_step)
theorem ifBound_B {id : String} {name : Str} {T : String} {args : List Value} {Q : Option Value → Shared → Prop} (X : K.In s.heap) (I : InstAt s.heap x ox C od) (hs : findIn K (.ref C) name = some (some (.builtin id))) (S : Slot T name id)
    (h : wpAny (model prog w) A (call (.builtin id) (.ref x :: args)) (fun v => Q (some v)) E s) : wpAny (model prog w) A (callSpecialIfBound? (.ref x) name args) Q E s := by
  simp only [callSpecialIfBound?, bindSpecialIfBound?]
  refine wpAny_holding (wpAny_bind (wpAny_bind (wpAny_bind (I.type.here ((looks_findIn X hs).here ?_)))))
  simp only [S.bind]
  refine wpAny_bind (wpAny_askSetting (wpAny_ite ?_))
  have fin : wpAny (model prog w) A (call (.builtin id) ([.ref x] ++ args) >>= fun v => pure (some v)) Q E s := wpAny_bind (wpAny_mono h (fun v s' h' => wpAny_pure h') fun _ _ h' => h')
  split
  · exact wpAny_bind (wpAny_pure (wpAny_pure fin))
  · exact wpAny_tryCatch (wpAny_bind (wpAny_pure (wpAny_pure fin)))
theorem ne_K {Q : Value → Shared → Prop} {tb : Value} (hu : A.units + 1 < cLine) (X : K.In s.heap) (I : InstAt s.heap x ox C od) (hb : Looks (model prog w) s.heap (typeOf b) tb) (hn : notFirst K C tb = true)
    (hs : findIn K (.ref C) "__eq__" = some (some (.ref f))) (hf : isFn K (.ref f) = true) (hs2 : findIn K (.ref C) "__ne__" = some (some (.builtin "object.__ne__"))) (ho : subIn K (.ref C) (.type "object") = some true)
    (h : wpAny (model prog w) A.in1 (call (.ref f) [.ref x, b]) (fun v s' => ∃ r, v = .bool r ∧ Q (.bool (!r)) s') E s) : wpAny (model prog w) A (richCompare .NotEq (.ref x) b) Q E s := by
  have one : wpAny (model prog w) A (tryCompare (.ref x) (cmpInfo .NotEq).2.1 b) (fun r s' => ∃ v, r = some v ∧ Q v s') E s := by
    unfold tryCompare
    refine wpAny_bind (ifBound_B X I hs2 slot_ne (wpAny_call (codeAny_call_builtin slot_ne.plain F.cmpEntry_ne (check_slot F.cmpKind_ne F.cmpSplit_ne ?_ (F.cmpArgs_ne _ _) (objNe_own (A := A.in1) hu X I hs hf (wpAny_mono h (fun v s' hv => ?_) fun _ _ e => e))))))
    · exact I.type.andThen (looks_subIn X ho)
    · obtain ⟨r, rfl, hq⟩ := hv
      exact ⟨r, rfl, wpAny_pure ⟨_, rfl, hq⟩⟩
  unfold richCompare
  simp only [oneThing_ref]
  refine wpAny_holding (wpAny_bind (wpAny_cRoomFor (Nat.lt_of_succ_lt hu) ?_))
  refine wpAny_bind (I.type.here (wpAny_bind (hb.here ?_)))
  split
  · rename_i q
    have e : subIn K tb (.ref C) = some false := by
      rcases Bool.or_eq_true_iff.mp hn with e | e
      · rw [beq_iff_eq.mp e] at q; simp at q
      · exact beq_iff_eq.mp e
    refine wpAny_bind ((looks_subIn X e).here ?_)
    simp only [Bool.false_eq_true, if_false]
    refine wpAny_bind (wpAny_mono one (fun r s' z => ?_) fun _ _ e => e)
    obtain ⟨v, rfl, hq⟩ := z
    exact wpAny_pure hq
  · refine wpAny_bind (wpAny_pure ?_)
    simp only [Bool.false_eq_true, if_false]
    refine wpAny_bind (wpAny_mono one (fun r s' z => ?_) fun _ _ e => e)
    obtain ⟨v, rfl, hq⟩ := z
    exact wpAny_pure hq
/-- a built-in value on the left declines, the object on the right answers -/
theorem rc_right {a : Value} {Ta ida : String} {Q : Value → Shared → Prop} (hu : A.units < cLine) (ha : s.TypeIs a Ta) (X : K.In s.heap) (I : InstAt s.heap x ox C od) (hsub : subIn K (.ref C) (.type Ta) = some false)
    (h1 : Slot Ta (cmpInfo .Eq).2.1 ida) (hc1 : ∀ Q' : Value → Shared → Prop, Q' .notImplemented s → wpAny (model prog w) A (call (.builtin ida) [a, .ref x]) Q' E s)
    (hs : findIn K (.ref C) "__eq__" = some (some (.ref f))) (hf : isFn K (.ref f) = true) (h : wpAny (model prog w) A (call (.ref f) [.ref x, a]) (PySem.W.CmpBack Q) E s) : wpAny (model prog w) A (richCompare .Eq a (.ref x)) Q E s := by
  unfold richCompare
  simp only [ha.oneThing_none]
  refine wpAny_holding (wpAny_bind (wpAny_cRoomFor hu ?_))
  refine wpAny_bind (wpAny_typeOf ha (wpAny_bind (I.type.here ?_)))
  rw [show (Value.type Ta != Value.ref C) = true from rfl]
  simp only [if_true]
  refine wpAny_bind ((looks_subIn X hsub).here ?_)
  simp only [Bool.false_eq_true, if_false, Bool.not_false, if_true]
  refine wpAny_bind (m := tryCompare a _ (.ref x)) (wpAny_tryCompare_declines ha h1 (hc1 _ ⟨rfl, ?_⟩))
  refine wpAny_bind (m := tryCompare (.ref x) _ a) ?_
  unfold tryCompare
  refine wpAny_bind (ifBound_K X I hs hf (wpAny_mono h (fun v s' hv => ?_) fun _ _ e => e))
  cases v <;> first | exact hv.elim | exact wpAny_pure (wpAny_pure hv)
theorem eqBool_right {a : Value} {Q : Bool → Shared → Prop} (hne : (a == .ref x) = false) (h : wpAny (model prog w) A (richCompare .Eq a (.ref x)) (fun v s' => ∃ r, v = .bool r ∧ Q r s') E s) : wpAny (model prog w) A (eqBool a (.ref x)) Q E s := by
  unfold eqBool
  refine wpAny_holding ?_
  rw [hne]
  refine wpAny_ite_split (fun hab => nomatch hab) (fun _ => ?_)
  have hb := wpAny_bind (f := truthOfDropped) (wpAny_mono h (fun v s' (hv : ∃ r, v = .bool r ∧ Q r s') => (by obtain ⟨r, rfl, q⟩ := hv; exact wpAny_truthy_bool q : wpAny (model prog w) A (truthOfDropped v) Q E s')) fun _ _ x => x)
  cases a <;> exact hb
end
end EqX
end Th
namespace Th
open PySem PySem.Spec PyProof.Rows L2
local macro_rules | `(tactic| walk_at "lk") => `(tactic| first
  | assumption
  | exact upd_same
  | (refine upd_old (by assumption) ?_; walk_at "lk")
  | (refine upd_diff (by assumption) ?_; walk_at "lk")
  | (refine upd_diff (Ne.symm (by assumption)) ?_; walk_at "lk"))
local macro_rules | `(tactic| walk_at "cnd") => `(tactic| first
  | omega
  | (refine ⟨by omega, by omega⟩)
  | (refine ⟨by omega, by omega, by omega⟩)
  | (refine .inl ⟨by omega, by omega⟩)
  | (refine .inr ⟨by omega, by omega⟩)
  | (exact (show CPow _ _ from ⟨by decide, by decide, by omega⟩))
  | decide +kernel
  | (unfold CMulW; decide +kernel)
  | (exact wide_div (b := 64) (by omega) (by omega) (by decide) (by decide)))
local macro_rules | `(tactic| walk_at "rd1") => `(tactic| first
  | (with_reducible refine r_seq ?_)
  | (with_reducible refine r_asg ?_)
  | (with_reducible refine r_ret ?_)
  | (with_reducible refine r_if ?_)
  | (with_reducible refine r_gname ?_)
  | ((with_reducible refine' r_var ?hv ?_); (case hv => exact rfl))
  | (with_reducible refine r_c ?_)
  | (with_reducible refine r_op ?_)
  | (with_reducible refine r_I0 ?_)
  | ((with_reducible refine r_I ?hc ?_); (case hc => walk_at "cnd"))
  | (with_reducible refine r_test ?_)
  | (with_reducible refine r_tB ?_)
  | (with_reducible refine r_bl ?_)
  | (with_reducible refine r_not ?_)
  | (with_reducible refine r_and ?_)
  | (with_reducible refine r_or ?_)
  | (with_reducible refine r_ifE ?_)
  | (with_reducible refine r_notV ?_)
  | (with_reducible refine r_andV ?_)
  | (with_reducible refine r_orV ?_)
  | (with_reducible refine r_chain ?_)
  | (with_reducible refine r_cb ?_)
  | (with_reducible refine r_call ?_)
  | (with_reducible refine r_callN ?_)
  | (with_reducible refine r_nil ?_)
  | (with_reducible refine r_cons ?_)
  | ((with_reducible refine r_lst ?_))
  | ((with_reducible refine r_tup ?_))
  | ((with_reducible refine r_new ?_ ?_); (exact Nat.le_of_ble_eq_true rfl); (intro p hp))
  | (with_reducible refine r_rInt1 ?_)
  | (with_reducible refine r_rIntB ?_)
  | (with_reducible refine r_rAbs ?_)
  | (with_reducible refine r_rMin2 ?_)
  | (with_reducible refine r_rMax2 ?_)
  | ((with_reducible refine r_rLenZ ?hz ?_); (case hz => first | assumption | exact Nat.le_of_ble_eq_true rfl | (refine Nat.le_trans ?_ (by decide : 100000 ≤ sizeLine); omega)))
  | ((with_reducible refine r_addZ ?hz ?_); (case hz => (refine Nat.le_trans ?_ (by decide : 100000 ≤ sizeLine); first | omega | (simp only [Str.length] at *; simp; omega))))
  | ((with_reducible refine r_mulZ ?hz ?h0 ?h1 ?_); (case hz => first | omega | exact Nat.le_of_ble_eq_true rfl); (case h0 => omega); (case h1 => omega))
  | ((with_reducible refine' r_rLenQ ?h1 ?_); (case h1 => first | (exact .inl (by assumption)) | (exact .inr (by assumption)) | (exact .inl (SqL.of (by walk_at "lk"))) | (exact .inr (SqT.of (by walk_at "lk")))))
  | ((with_reducible refine r_eq ?hs ?_); (case hs => exact rfl))
  | ((with_reducible refine r_ne ?hs ?_); (case hs => exact rfl))
  | (with_reducible refine r_inC ?_)
  | ((with_reducible refine' r_cat ?h1 ?h2 ?h3 ?_); (case h1 => walk_at "lk"); (case h2 => walk_at "lk"); (case h3 => exact Nat.le_of_ble_eq_true rfl); (intro p hp))
  | ((with_reducible refine' r_rep ?h1 ?h2 ?h3 ?h4 ?_); (case h1 => walk_at "lk"); (case h2 => omega); (case h3 => omega); (case h4 => exact Nat.le_of_ble_eq_true rfl); (intro p hp))
  | ((with_reducible refine' r_append ?h1 ?h2 ?_); (case h1 => walk_at "lk"); (case h2 => first | exact (show _ + 1 ≤ sizeLine from Nat.le_of_ble_eq_true rfl) | exact Nat.lt_of_le_of_lt (by omega : _ ≤ 100000) (by decide)))
  | (with_reducible refine r_bm ?_)
  | ((with_reducible refine' r_tyL ?h1 ?_); (case h1 => walk_at "lk"))
  | ((with_reducible refine' r_ixL ?h1 ?h2 ?_); (case h1 => first | assumption | exact SqL.of (by walk_at "lk")); (case h2 => exact rfl))
  | ((with_reducible refine' r_ixT ?h1 ?h2 ?_); (case h1 => first | assumption | exact SqT.of (by walk_at "lk")); (case h2 => exact rfl))
  | (with_reducible refine r_gsub ?_)
  | ((with_reducible refine' r_setL ?h1 ?h2 ?_); (case h1 => walk_at "lk"); (case h2 => exact rfl))
  | (with_reducible refine r_un ?_)
  | (with_reducible refine r_neg ?_)
  | (with_reducible refine r_iteT ?_)
  | (with_reducible refine r_iteNT ?_)
  | (with_reducible refine r_iteNF ?_)
  | (with_reducible refine r_iteF ?_)
  | (with_reducible refine r_next ?_)
  | (with_reducible refine r_drop ?_)
  | (with_reducible refine r_cont ?_)
  | (with_reducible refine r_brk ?_))
local macro_rules | `(tactic| walk_at "ty") => `(tactic| first
  | assumption
  | exact .base (.int _)
  | exact .base (.str _)
  | exact .base (.bl _)
  | exact .base .non
  | exact .byt _
  | exact .base (.lst (by walk_at "lk"))
  | exact .base (.tup (by walk_at "lk")))
local macro_rules | `(tactic| walk_at "rd2") => `(tactic| first
  | walk_at "rd1"
  | ((with_reducible refine' r_isi true ?ht ?hk ?_); (case ht => walk_at "ty"); (case hk => first | assumption | decide +kernel))
  | ((with_reducible refine' r_isi false ?ht ?hk ?_); (case ht => walk_at "ty"); (case hk => first | assumption | decide +kernel))
  | ((with_reducible refine' r_isiT2 true true ?hT ?ht ?hk ?hk2 ?_); (case hT => walk_at "lk"); (case ht => walk_at "ty"); (case hk => decide +kernel); (case hk2 => decide +kernel))
  | ((with_reducible refine' r_isiT2 true false ?hT ?ht ?hk ?hk2 ?_); (case hT => walk_at "lk"); (case ht => walk_at "ty"); (case hk => decide +kernel); (case hk2 => decide +kernel))
  | ((with_reducible refine' r_isiT2 false true ?hT ?ht ?hk ?hk2 ?_); (case hT => walk_at "lk"); (case ht => walk_at "ty"); (case hk => decide +kernel); (case hk2 => decide +kernel))
  | ((with_reducible refine' r_isiT2 false false ?hT ?ht ?hk ?hk2 ?_); (case hT => walk_at "lk"); (case ht => walk_at "ty"); (case hk => decide +kernel); (case hk2 => decide +kernel))
  | (with_reducible refine r_iteNT ?_)
  | ((show (if (!true) = true then _ else _)); refine r_iteNT ?_)
  | (with_reducible refine r_r1 ?_)
  | (with_reducible refine r_maks ?_)
  | (with_reducible refine r_sfld ?_)
  | ((with_reducible refine' r_sfldE ?h1 ?h2 ?h3 ?h4 ?_); (case h1 => walk_at "lk"); (case h2 => assumption); (case h3 => assumption); (case h4 => exact (show _ + 1 ≤ 1000 from Nat.le_of_ble_eq_true rfl)))
  | (with_reducible refine r_fld ?_)
  | (with_reducible refine r_join ?_)
  | (with_reducible refine r_jcons ?_)
  | (with_reducible refine r_jnil ?_)
  | ((with_reducible refine r_rLenY ?hz ?_); (case hz => first | assumption | (refine Nat.le_trans ?_ (by decide : 100000 ≤ sizeLine); omega)))
  | (with_reducible refine r_par ?_)
  | (with_reducible refine r_pair ?_)
  | (with_reducible refine r_par3 ?_)
  | (with_reducible refine r_trip ?_)
  | ((with_reducible refine' r_gtup ?h1 ?h2 ?_); (case h1 => first | assumption | exact SqT.of (by walk_at "lk")); (case h2 => exact rfl))
  | (with_reducible refine r_gcons ?_)
  | (with_reducible refine r_gnil ?_)
  | ((with_reducible refine' r_slL ?h1 ?_); (case h1 => first | assumption | exact SqL.of (by walk_at "lk")); (intro p hp))
  | (with_reducible refine r_iTup ?_)
  | ((with_reducible refine' r_tupE ?h1 ?_); (case h1 => first | assumption | exact SqT.of (by walk_at "lk")))
  | (with_reducible refine r_m1 ?_)
  | (with_reducible refine r_isZ ?_)
  | (with_reducible refine r_sl ?_)
  | (with_reducible refine r_noPart ?_)
  | (with_reducible refine r_part ?_)
  | (with_reducible refine r_partE ?_)
  | ((with_reducible refine r_slS ?hz ?_); (case hz => first | assumption | (refine Nat.le_trans ?_ (by decide : 100000 ≤ sizeLine); omega)))
  | ((with_reducible refine' r_inT ?h1 ?h2 ?h3 ?_); (case h1 => first | assumption | (exact SqT.of (by walk_at "lk"))); (case h2 => exact rfl); (case h3 => exact rfl))
  | ((with_reducible refine' r_inL ?h1 ?h2 ?h3 ?_); (case h1 => first | assumption | (exact SqL.of (by walk_at "lk"))); (case h2 => exact rfl); (case h3 => exact rfl))
  | (with_reducible refine r_lc ?_)
  | (with_reducible refine r_for ?_)
  | (with_reducible refine r_iStr ?_)
  | (with_reducible refine r_strE ?_)
  | (with_reducible refine r_iList ?_)
  | ((with_reducible refine' r_listE ?h1 ?_); (case h1 => first | assumption | exact SqL.of (by walk_at "lk")))
  | (with_reducible refine r_iRng1 ?_)
  | ((with_reducible refine' r_rngE ?h0 ?h1 ?_); (case h0 => first | omega | (split <;> omega)); (case h1 => first | omega | (split <;> omega))))
local macro_rules | `(tactic| walk_at "rd") => `(tactic| (repeat walk_at "rd2"))
local macro_rules | `(tactic| walk_at "st") => `(tactic| (repeat (first
  | (with_reducible refine r_gname ?_)
  | (with_reducible refine r_next ?_)
  | (with_reducible refine r_seq ?_)
  | (with_reducible refine r_asg ?_)
  | (with_reducible refine r_ret ?_)
  | (with_reducible refine r_for ?_)
  | (with_reducible refine r_iRng1 ?_)
  | (with_reducible refine r_iList ?_)
  | (with_reducible refine r_cons ?_)
  | (with_reducible refine r_par ?_)
  | (with_reducible refine r_par3 ?_))))
/-! ### the hand layer's rules for them -/
namespace EqX
open PySem PySem.W PyProof.Rows MeetsSeq MeetsSeq2 MeetsSeq3
section
variable {prog : Program} {w : World} {A : Around} {E : Value → Shared → Prop} {s : Shared} {R : Result → Shared → Prop}
/-- a list none of whose items is equal to x; the items are read anew at each turn -/
def NoneI (prog : Program) (w : World) (A : Around) (E : Value → Shared → Prop) (l : Addr) (x : Value) (N : Nat) (I : Shared → Prop) : Prop :=
  ∀ i s, I s → ∃ (items : Array Value) (n : Nat), s.heap.get? l = some { cls := .type "list", data := .seq items n } ∧ items.size = N ∧
    ∀ (h1 : i < items.size), wpAny (model prog w) A.in1 (eqBool items[i] x) (fun r s' => r = false ∧ I s') E s
theorem contains_loopG (l : Addr) (x : Value) (N : Nat) (I : Shared → Prop) (hl : NoneI prog w A (fun e s' => R (.error e) s') l x N I) (fin : ∀ s, I s → R (.ok (.ret (.bool false))) s) (k : Nat) :
    ∀ i : Nat, N - i = k → i ≤ N → ∀ s, I s →
      wpAny (model prog w) A.in1 (Builtin.«list.__contains__.loop» ⟨[.ref l, x, rawInt i], []⟩) (GQ.FinOf prog w A R) (fun e s' => R (.error e) s') s := by
  induction k with
  | zero =>
    intro i hk hi s h
    obtain ⟨items, n, hl1, hs1, _⟩ := hl i _ h
    have hR := fin s h
    obtain ⟨hp, g, d, tk, os⟩ := s
    wp_walk using AutoSeq1.wpAny_loadPart' hl1
    have hi1 : items[((i : Nat) : Int).toNat]? = none := by simp; omega
    rw [hi1]
    wp_walk
    exact hR
  | succ k ih =>
    intro i hk hi s h
    obtain ⟨items, n, hl1, hs1, turn⟩ := hl i _ h
    have hlt : i < items.size := by omega
    have ht := turn hlt
    obtain ⟨hp, g, d, tk, os⟩ := s
    wp_walk using AutoSeq1.wpAny_loadPart' hl1
    have hi1 : items[((i : Nat) : Int).toNat]? = some items[i] := by simp [hlt]
    have hc : ((i : Int) + 1) = ((i + 1 : Nat) : Int) := by omega
    rw [hi1]
    refine wpAny_bind (wpAny_mono ht (fun r s2 h2 => ?_) fun _ _ x => x)
    obtain ⟨hr, h2⟩ := h2
    subst hr
    have hrec := ih (i + 1) (by omega) (by omega) s2 h2
    obtain ⟨hp2, g2, d2, tk2, os2⟩ := s2
    wp_walk
    rw [hc]
    exact ⟨plainId_quiet plain_contains_loop _, codeAny_builtin entry_contains_loop (by
      rw [Around.under_plainId plain_contains_loop _]
      exact hrec)⟩
theorem in_G {l : Addr} {x : Value} {N : Nat} {Q : Value → Shared → Prop} (I : Shared → Prop) (hl : NoneI prog w A E l x N I) (h0 : I s) (fin : ∀ s, I s → Q (.bool false) s) : wpAny (model prog w) A (compareOp .In x (.ref l)) Q E s := by
  obtain ⟨items, n, hl1, hs1, _⟩ := hl 0 s h0
  show wpAny _ A (do return .bool (← contains (.ref l) x)) Q E s
  refine wpAny_bind (wpAny_contains_slot ⟨_, hl1, rfl⟩ F.slot_list_contains (wpAny_mono (GQ.call_here (Q := fun v s' => v = .bool false ∧ I s') F.slot_list_contains ⟨_, hl1, rfl⟩ F.entry_list_contains (F.args_list_contains_2 _ _) ?_) (fun v s' hv => ?_) fun _ _ e => e))
  · have hrec := contains_loopG (A := A) (R := wants (fun v s' => v = .bool false ∧ I s') E) l x N I hl (fun s' q => ⟨rfl, q⟩) _ 0 rfl (Nat.zero_le _) s h0
    obtain ⟨hp, g, d, tk, os⟩ := s
    wp_walk using AutoSeq1.wpAny_loadPart' hl1
    exact ⟨plainId_quiet plain_contains_loop _, codeAny_builtin entry_contains_loop (by
      rw [Around.under_plainId plain_contains_loop _]
      exact hrec)⟩
  · obtain ⟨rfl, q⟩ := hv
    exact wpAny_truthy_bool (wpAny_pure (fin _ q))
/-! the left ones decline -/
theorem none_decl (l : Addr) {Q : Value → Shared → Prop} (h : Q .notImplemented s) : wpAny (model prog w) A (call (.builtin "NoneType.__eq__") [.none, .ref l]) Q E s :=
  call_gives F.slot_NoneType_eq rfl F.entry_NoneType_eq (F.args_NoneType_eq_2 _ _) (SeqAt.NoneType___eq___none_ref_0 l) h
theorem str_decl (z : Str) (t : Tok) {a C dx : Addr} {Q : Value → Shared → Prop} (ho : s.heap.get? a = some (instObj C dx)) (h : Q .notImplemented s) : wpAny (model prog w) A (call (.builtin "str.__eq__") [.str z t, .ref a]) Q E s := by
  refine GQ.call_here F.slot_str_eq (typeIs_str s z t) F.entry_str_eq (F.args_str_eq_2 _ _) ?_
  obtain ⟨hp, g, d, tk, os⟩ := s
  wp_walk using AutoSeq1.wpAny_loadPart' ho, wpAny_load ho
  exact h
theorem list_decl {K : PySem.W.Frag} {l : Addr} {items : Array Value} {n : Nat} {a C dx : Addr} {Q : Value → Shared → Prop} (X : K.In s.heap) (hl : s.heap.get? l = some { cls := .type "list", data := .seq items n }) (ho : s.heap.get? a = some (instObj C dx)) (hs : subIn K (.ref C) (.type "list") = some false)
    (h : Q .notImplemented s) : wpAny (model prog w) A (call (.builtin "list.__eq__") [.ref l, .ref a]) Q E s := by
  refine GQ.call_here F.slot_list_eq ⟨_, hl, rfl⟩ F.entry_list_eq (F.args_list_eq_2 _ _) ?_
  have f1 := looks_subIn (M := model prog w) X hs
  obtain ⟨hp, g, d, tk, os⟩ := s
  wp_walk using AutoSeq1.wpAny_loadPart' hl, AutoSeq1.wpAny_loadPart' ho, f1.here
  exact h
theorem tup_decl {K : PySem.W.Frag} {l : Addr} {o : Obj} {a C dx : Addr} {Q : Value → Shared → Prop} (X : K.In s.heap) (hl : s.heap.get? l = some o) (hc : o.cls = .type "tuple") (ho : s.heap.get? a = some (instObj C dx)) (hs : subIn K (.ref C) (.type "tuple") = some false)
    (h : Q .notImplemented s) : wpAny (model prog w) A (call (.builtin "tuple.__eq__") [.ref l, .ref a]) Q E s := by
  refine GQ.call_here F.slot_tuple_eq ⟨_, hl, hc⟩ F.entry_tuple_eq (F.args_tuple_eq_2 _ _) ?_
  have f1 := looks_subIn (M := model prog w) X hs
  obtain ⟨hp, g, d, tk, os⟩ := s
  obtain ⟨cls, dd, data, sl⟩ := o
  simp only at hc
  subst hc
  wp_walk using AutoSeq1.wpAny_loadPart' hl, AutoSeq1.wpAny_loadPart' ho, f1.here
  exact h
end
end EqX
end Th
namespace Th
open PySem PySem.Spec PyProof.Rows L2
local macro_rules | `(tactic| walk_at "lk") => `(tactic| first
  | assumption
  | exact upd_same
  | (refine upd_old (by assumption) ?_; walk_at "lk")
  | (refine upd_diff (by assumption) ?_; walk_at "lk")
  | (refine upd_diff (Ne.symm (by assumption)) ?_; walk_at "lk"))
local macro_rules | `(tactic| walk_at "cnd") => `(tactic| first
  | omega
  | (refine ⟨by omega, by omega⟩)
  | (refine ⟨by omega, by omega, by omega⟩)
  | (refine .inl ⟨by omega, by omega⟩)
  | (refine .inr ⟨by omega, by omega⟩)
  | (exact (show CPow _ _ from ⟨by decide, by decide, by omega⟩))
  | decide +kernel
  | (unfold CMulW; decide +kernel)
  | (exact wide_div (b := 64) (by omega) (by omega) (by decide) (by decide)))
local macro_rules | `(tactic| walk_at "rd1") => `(tactic| first
  | (with_reducible refine r_seq ?_)
  | (with_reducible refine r_asg ?_)
  | (with_reducible refine r_ret ?_)
  | (with_reducible refine r_if ?_)
  | (with_reducible refine r_gname ?_)
  | ((with_reducible refine' r_var ?hv ?_); (case hv => exact rfl))
  | (with_reducible refine r_c ?_)
  | (with_reducible refine r_op ?_)
  | (with_reducible refine r_I0 ?_)
  | ((with_reducible refine r_I ?hc ?_); (case hc => walk_at "cnd"))
  | (with_reducible refine r_test ?_)
  | (with_reducible refine r_tB ?_)
  | (with_reducible refine r_bl ?_)
  | (with_reducible refine r_not ?_)
  | (with_reducible refine r_and ?_)
  | (with_reducible refine r_or ?_)
  | (with_reducible refine r_ifE ?_)
  | (with_reducible refine r_notV ?_)
  | (with_reducible refine r_andV ?_)
  | (with_reducible refine r_orV ?_)
  | (with_reducible refine r_chain ?_)
  | (with_reducible refine r_cb ?_)
  | (with_reducible refine r_call ?_)
  | (with_reducible refine r_callN ?_)
  | (with_reducible refine r_nil ?_)
  | (with_reducible refine r_cons ?_)
  | ((with_reducible refine r_lst ?_))
  | ((with_reducible refine r_tup ?_))
  | ((with_reducible refine r_new ?_ ?_); (exact Nat.le_of_ble_eq_true rfl); (intro p hp))
  | (with_reducible refine r_rInt1 ?_)
  | (with_reducible refine r_rIntB ?_)
  | (with_reducible refine r_rAbs ?_)
  | (with_reducible refine r_rMin2 ?_)
  | (with_reducible refine r_rMax2 ?_)
  | ((with_reducible refine r_rLenZ ?hz ?_); (case hz => first | assumption | exact Nat.le_of_ble_eq_true rfl | (refine Nat.le_trans ?_ (by decide : 100000 ≤ sizeLine); omega)))
  | ((with_reducible refine r_addZ ?hz ?_); (case hz => (refine Nat.le_trans ?_ (by decide : 100000 ≤ sizeLine); first | omega | (simp only [Str.length] at *; simp; omega))))
  | ((with_reducible refine r_mulZ ?hz ?h0 ?h1 ?_); (case hz => first | omega | exact Nat.le_of_ble_eq_true rfl); (case h0 => omega); (case h1 => omega))
  | ((with_reducible refine' r_rLenQ ?h1 ?_); (case h1 => first | (exact .inl (by assumption)) | (exact .inr (by assumption)) | (exact .inl (SqL.of (by walk_at "lk"))) | (exact .inr (SqT.of (by walk_at "lk")))))
  | ((with_reducible refine r_eq ?hs ?_); (case hs => exact rfl))
  | ((with_reducible refine r_ne ?hs ?_); (case hs => exact rfl))
  | (with_reducible refine r_inC ?_)
  | ((with_reducible refine' r_cat ?h1 ?h2 ?h3 ?_); (case h1 => walk_at "lk"); (case h2 => walk_at "lk"); (case h3 => exact Nat.le_of_ble_eq_true rfl); (intro p hp))
  | ((with_reducible refine' r_rep ?h1 ?h2 ?h3 ?h4 ?_); (case h1 => walk_at "lk"); (case h2 => omega); (case h3 => omega); (case h4 => exact Nat.le_of_ble_eq_true rfl); (intro p hp))
  | ((with_reducible refine' r_append ?h1 ?h2 ?_); (case h1 => walk_at "lk"); (case h2 => first | exact (show _ + 1 ≤ sizeLine from Nat.le_of_ble_eq_true rfl) | exact Nat.lt_of_le_of_lt (by omega : _ ≤ 100000) (by decide)))
  | (with_reducible refine r_bm ?_)
  | ((with_reducible refine' r_tyL ?h1 ?_); (case h1 => walk_at "lk"))
  | ((with_reducible refine' r_ixL ?h1 ?h2 ?_); (case h1 => first | assumption | exact SqL.of (by walk_at "lk")); (case h2 => exact rfl))
  | ((with_reducible refine' r_ixT ?h1 ?h2 ?_); (case h1 => first | assumption | exact SqT.of (by walk_at "lk")); (case h2 => exact rfl))
  | (with_reducible refine r_gsub ?_)
  | ((with_reducible refine' r_setL ?h1 ?h2 ?_); (case h1 => walk_at "lk"); (case h2 => exact rfl))
  | (with_reducible refine r_un ?_)
  | (with_reducible refine r_neg ?_)
  | (with_reducible refine r_iteT ?_)
  | (with_reducible refine r_iteNT ?_)
  | (with_reducible refine r_iteNF ?_)
  | (with_reducible refine r_iteF ?_)
  | (with_reducible refine r_next ?_)
  | (with_reducible refine r_drop ?_)
  | (with_reducible refine r_cont ?_)
  | (with_reducible refine r_brk ?_))
local macro_rules | `(tactic| walk_at "ty") => `(tactic| first
  | assumption
  | exact .base (.int _)
  | exact .base (.str _)
  | exact .base (.bl _)
  | exact .base .non
  | exact .byt _
  | exact .base (.lst (by walk_at "lk"))
  | exact .base (.tup (by walk_at "lk")))
local macro_rules | `(tactic| walk_at "rd2") => `(tactic| first
  | walk_at "rd1"
  | ((with_reducible refine' r_isi true ?ht ?hk ?_); (case ht => walk_at "ty"); (case hk => first | assumption | decide +kernel))
  | ((with_reducible refine' r_isi false ?ht ?hk ?_); (case ht => walk_at "ty"); (case hk => first | assumption | decide +kernel))
  | ((with_reducible refine' r_isiT2 true true ?hT ?ht ?hk ?hk2 ?_); (case hT => walk_at "lk"); (case ht => walk_at "ty"); (case hk => decide +kernel); (case hk2 => decide +kernel))
  | ((with_reducible refine' r_isiT2 true false ?hT ?ht ?hk ?hk2 ?_); (case hT => walk_at "lk"); (case ht => walk_at "ty"); (case hk => decide +kernel); (case hk2 => decide +kernel))
  | ((with_reducible refine' r_isiT2 false true ?hT ?ht ?hk ?hk2 ?_); (case hT => walk_at "lk"); (case ht => walk_at "ty"); (case hk => decide +kernel); (case hk2 => decide +kernel))
  | ((with_reducible refine' r_isiT2 false false ?hT ?ht ?hk ?hk2 ?_); (case hT => walk_at "lk"); (case ht => walk_at "ty"); (case hk => decide +kernel); (case hk2 => decide +kernel))
  | (with_reducible refine r_iteNT ?_)
  | ((show (if (!true) = true then _ else _)); refine r_iteNT ?_)
  | (with_reducible refine r_r1 ?_)
  | (with_reducible refine r_maks ?_)
  | (with_reducible refine r_sfld ?_)
  | ((with_reducible refine' r_sfldE ?h1 ?h2 ?h3 ?h4 ?_); (case h1 => walk_at "lk"); (case h2 => assumption); (case h3 => assumption); (case h4 => exact (show _ + 1 ≤ 1000 from Nat.le_of_ble_eq_true rfl)))
  | (with_reducible refine r_fld ?_)
  | (with_reducible refine r_join ?_)
  | (with_reducible refine r_jcons ?_)
  | (with_reducible refine r_jnil ?_)
  | ((with_reducible refine r_rLenY ?hz ?_); (case hz => first | assumption | (refine Nat.le_trans ?_ (by decide : 100000 ≤ sizeLine); omega)))
  | (with_reducible refine r_par ?_)
  | (with_reducible refine r_pair ?_)
  | (with_reducible refine r_par3 ?_)
  | (with_reducible refine r_trip ?_)
  | ((with_reducible refine' r_gtup ?h1 ?h2 ?_); (case h1 => first | assumption | exact SqT.of (by walk_at "lk")); (case h2 => exact rfl))
  | (with_reducible refine r_gcons ?_)
  | (with_reducible refine r_gnil ?_)
  | ((with_reducible refine' r_slL ?h1 ?_); (case h1 => first | assumption | exact SqL.of (by walk_at "lk")); (intro p hp))
  | (with_reducible refine r_iTup ?_)
  | ((with_reducible refine' r_tupE ?h1 ?_); (case h1 => first | assumption | exact SqT.of (by walk_at "lk")))
  | (with_reducible refine r_m1 ?_)
  | (with_reducible refine r_isZ ?_)
  | (with_reducible refine r_sl ?_)
  | (with_reducible refine r_noPart ?_)
  | (with_reducible refine r_part ?_)
  | (with_reducible refine r_partE ?_)
  | ((with_reducible refine r_slS ?hz ?_); (case hz => first | assumption | (refine Nat.le_trans ?_ (by decide : 100000 ≤ sizeLine); omega)))
  | ((with_reducible refine' r_inT ?h1 ?h2 ?h3 ?_); (case h1 => first | assumption | (exact SqT.of (by walk_at "lk"))); (case h2 => exact rfl); (case h3 => exact rfl))
  | ((with_reducible refine' r_inL ?h1 ?h2 ?h3 ?_); (case h1 => first | assumption | (exact SqL.of (by walk_at "lk"))); (case h2 => exact rfl); (case h3 => exact rfl))
  | (with_reducible refine r_lc ?_)
  | (with_reducible refine r_for ?_)
  | (with_reducible refine r_iStr ?_)
  | (with_reducible refine r_strE ?_)
  | (with_reducible refine r_iList ?_)
  | ((with_reducible refine' r_listE ?h1 ?_); (case h1 => first | assumption | exact SqL.of (by walk_at "lk")))
  | (with_reducible refine r_iRng1 ?_)
  | ((with_reducible refine' r_rngE ?h0 ?h1 ?_); (case h0 => first | omega | (split <;> omega)); (case h1 => first | omega | (split <;> omega))))
local macro_rules | `(tactic| walk_at "rd") => `(tactic| (repeat walk_at "rd2"))
local macro_rules | `(tactic| walk_at "st") => `(tactic| (repeat (first
  | (with_reducible refine r_gname ?_)
  | (with_reducible refine r_next ?_)
  | (with_reducible refine r_seq ?_)
  | (with_reducible refine r_asg ?_)
  | (with_reducible refine r_ret ?_)
  | (with_reducible refine r_for ?_)
  | (with_reducible refine r_iRng1 ?_)
  | (with_reducible refine r_iList ?_)
  | (with_reducible refine r_cons ?_)
  | (with_reducible refine r_par ?_)
  | (with_reducible refine r_par3 ?_))))
/-! ### members compared: the rules -/
structure EqF (K : PySem.W.Frag) (C f : Addr) : Prop where
  eq : PySem.W.findIn K (.ref C) "__eq__" = some (some (.ref f))
  fn : PySem.W.isFn K (.ref f) = true
  ne : PySem.W.findIn K (.ref C) "__ne__" = some (some (.builtin "object.__ne__"))
  ob : PySem.W.subIn K (.ref C) (.type "object") = some true
  dN : PySem.W.subIn K (.ref C) (.type "NoneType") = some false
  dS : PySem.W.subIn K (.ref C) (.type "str") = some false
  dL : PySem.W.subIn K (.ref C) (.type "list") = some false
  dT : PySem.W.subIn K (.ref C) (.type "tuple") = some false
  kN : PySem.W.kitOne K (.type "NoneType") (.ref C) = some false
  kS : PySem.W.kitOne K (.type "str") (.ref C) = some false
  kL : PySem.W.kitOne K (.type "list") (.ref C) = some false
  kT : PySem.W.kitOne K (.type "tuple") (.ref C) = some false
/-- what an __eq__ of the class at C promises: False for what is no C; R tells the answer of two -/
def spEqM (K : PySem.W.Frag) (C : Addr) (R : Addr → Addr → Hp → Bool → Prop) : Sp := fun vs H Q _ => ∃ a u, vs = [.ref a, u] ∧
  ((∃ t, TyX K H u t ∧ PySem.W.kitOne K t (.ref C) = some false ∧ Q (.bl false) H) ∨ ∃ b r, u = .ref b ∧ R a b H r ∧ Q (.bl r) H)
structure EqT (P : Program) (w : World) (K : PySem.W.Frag) (mg : Str → Option Value) (base : Heap) (k : Nat) (C : Addr) (R : Addr → Addr → Hp → Bool → Prop) : Prop where
  ex : ∃ f, EqF K C f ∧ FnR P w K mg base CX0 k f (spEqM K C R)
/-- == (neg = id) and != (neg = not) of two members, x of a class with an own __eq__ -/
def rOwnQ (P : Program) (w : World) (K : PySem.W.Frag) (mg : Str → Option Value) (base : Heap) (k : Nat) (neg : Bool → Bool) : R2 := fun x y H Q => ∃ C R a dx fs C' b dy gs r, EqT P w K mg base k C R ∧ x = .ref a ∧ y = .ref b ∧ H a = some (.ins C dx fs) ∧ H b = some (.ins C' dy gs) ∧
  PySem.W.notFirst K C (.ref C') = true ∧ ((TyX K H (.ref b) (.ref C') ∧ PySem.W.kitOne K (.ref C') (.ref C) = some false ∧ r = false) ∨ R a b H r) ∧ Q (.bl (neg r)) H
/-- x in a list of None, texts, lists and tuples -/
def rInQ (P : Program) (w : World) (K : PySem.W.Frag) (mg : Str → Option Value) (base : Heap) (k : Nat) : R2 := fun x y H Q => ∃ C R a dx fs p xs, EqT P w K mg base k C R ∧ x = .ref a ∧ y = .ref p ∧ H a = some (.ins C dx fs) ∧ H p = some (.lst xs) ∧
  (∀ z ∈ xs, z = .non ∨ (∃ s, z = .str s) ∨ ∃ b ys, z = .ref b ∧ (H b = some (.lst ys) ∨ H b = some (.tup ys))) ∧ Q (.bl false) H
section
variable {X : Cx} {k : Nat}
theorem spEqM_of {K : PySem.W.Frag} {C C' a b : Addr} {R : Addr → Addr → Hp → Bool → Prop} {H : Hp} {r : Bool} {Q : VK} {E : XK} (h : (TyX K H (.ref b) (.ref C') ∧ PySem.W.kitOne K (.ref C') (.ref C) = some false ∧ r = false) ∨ R a b H r) (q : Q (.bl r) H) : spEqM K C R [.ref a, .ref b] H Q E := by
  rcases h with ⟨t, k, rfl⟩ | h
  · exact ⟨a, _, rfl, .inl ⟨_, t, k, q⟩⟩
  · exact ⟨a, _, rfl, .inr ⟨b, r, rfl, h, q⟩⟩
theorem op_ownEq (hr : Room k X.A) : OpR X (compareOp .Eq) (rOwnQ X.prog X.w X.K X.mg X.base k id) := by
  intro pins s σ H x y v u Q I rx ry h
  obtain ⟨C, R, a, dx, fs, C', b, dy, gs, r, ⟨f, F, Fn⟩, rfl, rfl, ha, hb, hn, hs, q⟩ := h
  cases (show v = Value.ref a from rx)
  cases (show u = Value.ref b from ry)
  obtain ⟨mA, O, _⟩ := ins_get I.hok ha
  obtain ⟨mB, O', _⟩ := ins_get I.hok hb
  obtain ⟨od, J, _⟩ := O.look
  obtain ⟨od', J', _⟩ := O'.look
  obtain ⟨m, hF⟩ := I.fr
  show wpAny _ _ (richCompare .Eq (.ref a) (.ref b)) _ _ _
  refine PySem.W.cmp_K (op := .Eq) (tb := .ref C') hr.units0 hF I.ok.mod.kin J J'.type hn F.eq F.fn ?_
  refine wpAny_mono (wpAny_call (run_fnR (us := [.ref a, .ref b]) (vs := [.ref a, .ref b]) (Q := fun z H' => z = .bl r ∧ H' = H) (E := E0) Fn hr pass0 I (.cons rfl (.cons rfl .nil)) (spEqM_of hs ⟨rfl, rfl⟩))) (fun w s' z => ?_) fun _ _ x => x
  obtain ⟨z', H', I', rz, rfl, rfl⟩ := z
  cases rz
  exact ⟨.bl r, _, I', rfl, q⟩
theorem op_ownNe (hr : Room (k + 1) X.A) (hu : X.A.units + 1 < cLine) : OpR X (compareOp .NotEq) (rOwnQ X.prog X.w X.K X.mg X.base k not) := by
  intro pins s σ H x y v u Q I rx ry h
  obtain ⟨C, R, a, dx, fs, C', b, dy, gs, r, ⟨f, F, Fn⟩, rfl, rfl, ha, hb, hn, hs, q⟩ := h
  cases (show v = Value.ref a from rx)
  cases (show u = Value.ref b from ry)
  obtain ⟨mA, O, _⟩ := ins_get I.hok ha
  obtain ⟨mB, O', _⟩ := ins_get I.hok hb
  obtain ⟨od, J, _⟩ := O.look
  obtain ⟨od', J', _⟩ := O'.look
  show wpAny _ _ (richCompare .NotEq (.ref a) (.ref b)) _ _ _
  refine EqX.ne_K (tb := .ref C') hu I.kIn J J'.type hn F.eq F.fn F.ne F.ob ?_
  refine wpAny_mono (wpAny_call (SlX.run_at (us := [.ref a, .ref b]) (ws := [.ref a, .ref b]) (Q := fun z H' => z = .bl r ∧ H' = H) (E := E0) Fn hr.in1 I.env0.in1 pass0 I (.cons rfl (.cons rfl .nil)) (spEqM_of hs ⟨rfl, rfl⟩))) (fun w s' z => ?_) fun _ _ x => x
  obtain ⟨z', H', I', rz, rfl, rfl⟩ := z
  cases rz
  exact ⟨_, rfl, .bl (!r), _, I', rfl, q⟩
theorem op_ownIn (hr : Room (k + 1) X.A) : OpR X (compareOp .In) (rInQ X.prog X.w X.K X.mg X.base k) := by
  intro pins s σ H x y v u Q I rx ry h
  obtain ⟨C, R, a, dx, fs, p, xs, ⟨f, F, Fn⟩, rfl, rfl, ha, hp, hz, q⟩ := h
  cases (show v = Value.ref a from rx)
  cases (show u = Value.ref p from ry)
  have hr1 := hr.in1
  refine EqX.in_G (N := xs.length) (fun s' => Inv X pins σ H s') (fun i s' I' => ?_) I (fun s' I' => ⟨.bl false, _, I', rfl, q⟩)
  obtain ⟨z, its, n, r, e⟩ := I'.hok p _ hp
  refine ⟨its.toArray, n, e, by rw [List.size_toArray, ← r.length], fun h1 => ?_⟩
  have k1 : i < xs.length := by rw [r.length]; simpa using h1
  obtain ⟨u1, hu1, ru⟩ := r.get (List.getElem?_eq_getElem k1)
  have e1 : its[i]? = some its.toArray[i] := by
    have h1' : i < its.length := by simpa using h1
    rw [List.getElem?_eq_getElem h1'] <;> simp
  rw [e1] at hu1
  rw [Option.some.inj hu1]
  obtain ⟨mA, O, _⟩ := ins_get I'.hok ha
  obtain ⟨od, J, _⟩ := O.look
  have fin : ∀ (zz : V), RelV zz u1 → (∃ t, TyX X.K H zz t ∧ PySem.W.kitOne X.K t (.ref C) = some false) → wpAny (model X.prog X.w) X.A.in1 (call (.ref f) [.ref a, u1]) (PySem.W.CmpBack (fun v s' => ∃ r, v = .bool r ∧ (r = false ∧ Inv X pins σ H s'))) X.xe s' := by
    intro zz rz ⟨t, ht, hk⟩
    refine wpAny_mono (wpAny_call (SlX.run_at (us := [.ref a, u1]) (ws := [.ref a, zz]) (Q := fun z H' => z = .bl false ∧ H' = H) (E := E0) Fn hr1 I'.env0.in1 pass0 I' (.cons rfl (.cons rz .nil)) ⟨a, zz, rfl, .inl ⟨t, ht, hk, rfl, rfl⟩⟩)) (fun w s' z => ?_) fun _ _ x => x
    obtain ⟨z', H', I2, rz', rfl, rfl⟩ := z
    cases rz'
    exact ⟨_, rfl, rfl, I2⟩
  have hu0 := hr1.units0
  rcases hz _ (List.getElem_mem k1) with h0 | ⟨s0, h0⟩ | ⟨b, ys, h0, h2⟩
  · rw [h0] at ru
    cases (show u1 = Value.none from ru)
    exact EqX.eqBool_right rfl (EqX.rc_right (Ta := "NoneType") hu0 rfl I'.kIn J F.dN PySem.F.slot_NoneType_eq (fun Q' hq => EqX.none_decl a hq) F.eq F.fn (fin .non rfl ⟨_, .base .non, F.kN⟩))
  · rw [h0] at ru
    obtain ⟨t, et⟩ := (show ∃ t, u1 = Value.str s0 t from ru)
    subst et
    exact EqX.eqBool_right rfl (EqX.rc_right (Ta := "str") hu0 (typeIs_str s' s0 t) I'.kIn J F.dS PySem.F.slot_str_eq (fun Q' hq => EqX.str_decl s0 t O.obj hq) F.eq F.fn (fin (.str s0) ⟨t, rfl⟩ ⟨_, .base (.str s0), F.kS⟩))
  · rw [h0] at ru
    cases (show u1 = Value.ref b from ru)
    have hne : (Value.ref b == Value.ref a) = false := by
      rw [beq_eq_false_iff_ne]
      intro e
      injection e with e
      subst e
      rw [ha] at h2
      rcases h2 with h2 | h2 <;> cases h2
    rcases h2 with h2 | h2
    · obtain ⟨_, its', n', _, e'⟩ := I'.hok b _ h2
      exact EqX.eqBool_right hne (EqX.rc_right (Ta := "list") hu0 ⟨_, e', rfl⟩ I'.kIn J F.dL PySem.F.slot_list_eq (fun Q' hq => EqX.list_decl I'.kIn e' O.obj F.dL hq) F.eq F.fn (fin (.ref b) rfl ⟨_, .base (.lst h2), F.kL⟩))
    · obtain ⟨_, its', _, o, g1, g2, _⟩ := (show ObjOk X.prog X.w H s'.heap b (.tup ys) from I'.hok b _ h2)
      exact EqX.eqBool_right hne (EqX.rc_right (Ta := "tuple") hu0 ⟨_, g1, g2⟩ I'.kIn J F.dT PySem.F.slot_tuple_eq (fun Q' hq => EqX.tup_decl I'.kIn g1 g2 O.obj F.dT hq) F.eq F.fn (fin (.ref b) rfl ⟨_, .base (.tup h2), F.kT⟩))
end
theorem op_ownEqK {X : Cx} {k : Nat} {P : Program} {w : World} {mg : Str → Option Value} {base : Heap} (K : PySem.W.Frag) (hr : Room k X.A) (h1 : X.prog = P := by rfl) (h2 : X.w = w := by rfl) (h3 : X.K = K := by rfl) (h4 : X.mg = mg := by rfl) (h5 : X.base = base := by rfl) : OpR X (compareOp .Eq) (rOwnQ P w K mg base k id) := by
  subst h1 h2 h3 h4 h5; exact op_ownEq hr
theorem op_ownNeK {X : Cx} {k : Nat} {P : Program} {w : World} {mg : Str → Option Value} {base : Heap} (K : PySem.W.Frag) (hr : Room (k + 1) X.A) (hu : X.A.units + 1 < cLine) (h1 : X.prog = P := by rfl) (h2 : X.w = w := by rfl) (h3 : X.K = K := by rfl) (h4 : X.mg = mg := by rfl) (h5 : X.base = base := by rfl) : OpR X (compareOp .NotEq) (rOwnQ P w K mg base k not) := by
  subst h1 h2 h3 h4 h5; exact op_ownNe hr hu
theorem op_ownInK {X : Cx} {k : Nat} {P : Program} {w : World} {mg : Str → Option Value} {base : Heap} (K : PySem.W.Frag) (hr : Room (k + 1) X.A) (h1 : X.prog = P := by rfl) (h2 : X.w = w := by rfl) (h3 : X.K = K := by rfl) (h4 : X.mg = mg := by rfl) (h5 : X.base = base := by rfl) : OpR X (compareOp .In) (rInQ P w K mg base k) := by
  subst h1 h2 h3 h4 h5; exact op_ownIn hr
end Th
namespace Th
open PySem PySem.Spec PyProof.Rows L2
local macro_rules | `(tactic| walk_at "lk") => `(tactic| first
  | assumption
  | exact upd_same
  | (refine upd_old (by assumption) ?_; walk_at "lk")
  | (refine upd_diff (by assumption) ?_; walk_at "lk")
  | (refine upd_diff (Ne.symm (by assumption)) ?_; walk_at "lk"))
local macro_rules | `(tactic| walk_at "cnd") => `(tactic| first
  | omega
  | (refine ⟨by omega, by omega⟩)
  | (refine ⟨by omega, by omega, by omega⟩)
  | (refine .inl ⟨by omega, by omega⟩)
  | (refine .inr ⟨by omega, by omega⟩)
  | (exact (show CPow _ _ from ⟨by decide, by decide, by omega⟩))
  | decide +kernel
  | (unfold CMulW; decide +kernel)
  | (exact wide_div (b := 64) (by omega) (by omega) (by decide) (by decide)))
local macro_rules | `(tactic| walk_at "rd1") => `(tactic| first
  | (with_reducible refine r_seq ?_)
  | (with_reducible refine r_asg ?_)
  | (with_reducible refine r_ret ?_)
  | (with_reducible refine r_if ?_)
  | (with_reducible refine r_gname ?_)
  | ((with_reducible refine' r_var ?hv ?_); (case hv => exact rfl))
  | (with_reducible refine r_c ?_)
  | (with_reducible refine r_op ?_)
  | (with_reducible refine r_I0 ?_)
  | ((with_reducible refine r_I ?hc ?_); (case hc => walk_at "cnd"))
  | (with_reducible refine r_test ?_)
  | (with_reducible refine r_tB ?_)
  | (with_reducible refine r_bl ?_)
  | (with_reducible refine r_not ?_)
  | (with_reducible refine r_and ?_)
  | (with_reducible refine r_or ?_)
  | (with_reducible refine r_ifE ?_)
  | (with_reducible refine r_notV ?_)
  | (with_reducible refine r_andV ?_)
  | (with_reducible refine r_orV ?_)
  | (with_reducible refine r_chain ?_)
  | (with_reducible refine r_cb ?_)
  | (with_reducible refine r_call ?_)
  | (with_reducible refine r_callN ?_)
  | (with_reducible refine r_nil ?_)
  | (with_reducible refine r_cons ?_)
  | ((with_reducible refine r_lst ?_))
  | ((with_reducible refine r_tup ?_))
  | ((with_reducible refine r_new ?_ ?_); (exact Nat.le_of_ble_eq_true rfl); (intro p hp))
  | (with_reducible refine r_rInt1 ?_)
  | (with_reducible refine r_rIntB ?_)
  | (with_reducible refine r_rAbs ?_)
  | (with_reducible refine r_rMin2 ?_)
  | (with_reducible refine r_rMax2 ?_)
  | ((with_reducible refine r_rLenZ ?hz ?_); (case hz => first | assumption | exact Nat.le_of_ble_eq_true rfl | (refine Nat.le_trans ?_ (by decide : 100000 ≤ sizeLine); omega)))
  | ((with_reducible refine r_addZ ?hz ?_); (case hz => (refine Nat.le_trans ?_ (by decide : 100000 ≤ sizeLine); first | omega | (simp only [Str.length] at *; simp; omega))))
  | ((with_reducible refine r_mulZ ?hz ?h0 ?h1 ?_); (case hz => first | omega | exact Nat.le_of_ble_eq_true rfl); (case h0 => omega); (case h1 => omega))
  | ((with_reducible refine' r_rLenQ ?h1 ?_); (case h1 => first | (exact .inl (by assumption)) | (exact .inr (by assumption)) | (exact .inl (SqL.of (by walk_at "lk"))) | (exact .inr (SqT.of (by walk_at "lk")))))
  | ((with_reducible refine r_eq ?hs ?_); (case hs => exact rfl))
  | ((with_reducible refine r_ne ?hs ?_); (case hs => exact rfl))
  | (with_reducible refine r_inC ?_)
  | ((with_reducible refine' r_cat ?h1 ?h2 ?h3 ?_); (case h1 => walk_at "lk"); (case h2 => walk_at "lk"); (case h3 => exact Nat.le_of_ble_eq_true rfl); (intro p hp))
  | ((with_reducible refine' r_rep ?h1 ?h2 ?h3 ?h4 ?_); (case h1 => walk_at "lk"); (case h2 => omega); (case h3 => omega); (case h4 => exact Nat.le_of_ble_eq_true rfl); (intro p hp))
  | ((with_reducible refine' r_append ?h1 ?h2 ?_); (case h1 => walk_at "lk"); (case h2 => first | exact (show _ + 1 ≤ sizeLine from Nat.le_of_ble_eq_true rfl) | exact Nat.lt_of_le_of_lt (by omega : _ ≤ 100000) (by decide)))
  | (with_reducible refine r_bm ?_)
  | ((with_reducible refine' r_tyL ?h1 ?_); (case h1 => walk_at "lk"))
  | ((with_reducible refine' r_ixL ?h1 ?h2 ?_); (case h1 => first | assumption | exact SqL.of (by walk_at "lk")); (case h2 => exact rfl))
  | ((with_reducible refine' r_ixT ?h1 ?h2 ?_); (case h1 => first | assumption | exact SqT.of (by walk_at "lk")); (case h2 => exact rfl))
  | (with_reducible refine r_gsub ?_)
  | ((with_reducible refine' r_setL ?h1 ?h2 ?_); (case h1 => walk_at "lk"); (case h2 => exact rfl))
  | (with_reducible refine r_un ?_)
  | (with_reducible refine r_neg ?_)
  | (with_reducible refine r_iteT ?_)
  | (with_reducible refine r_iteNT ?_)
  | (with_reducible refine r_iteNF ?_)
  | (with_reducible refine r_iteF ?_)
  | (with_reducible refine r_next ?_)
  | (with_reducible refine r_drop ?_)
  | (with_reducible refine r_cont ?_)
  | (with_reducible refine r_brk ?_))
local macro_rules | `(tactic| walk_at "ty") => `(tactic| first
  | assumption
  | exact .base (.int _)
  | exact .base (.str _)
  | exact .base (.bl _)
  | exact .base .non
  | exact .byt _
  | exact .base (.lst (by walk_at "lk"))
  | exact .base (.tup (by walk_at "lk")))
local macro_rules | `(tactic| walk_at "rd2") => `(tactic| first
  | walk_at "rd1"
  | ((with_reducible refine' r_isi true ?ht ?hk ?_); (case ht => walk_at "ty"); (case hk => first | assumption | decide +kernel))
  | ((with_reducible refine' r_isi false ?ht ?hk ?_); (case ht => walk_at "ty"); (case hk => first | assumption | decide +kernel))
  | ((with_reducible refine' r_isiT2 true true ?hT ?ht ?hk ?hk2 ?_); (case hT => walk_at "lk"); (case ht => walk_at "ty"); (case hk => decide +kernel); (case hk2 => decide +kernel))
  | ((with_reducible refine' r_isiT2 true false ?hT ?ht ?hk ?hk2 ?_); (case hT => walk_at "lk"); (case ht => walk_at "ty"); (case hk => decide +kernel); (case hk2 => decide +kernel))
  | ((with_reducible refine' r_isiT2 false true ?hT ?ht ?hk ?hk2 ?_); (case hT => walk_at "lk"); (case ht => walk_at "ty"); (case hk => decide +kernel); (case hk2 => decide +kernel))
  | ((with_reducible refine' r_isiT2 false false ?hT ?ht ?hk ?hk2 ?_); (case hT => walk_at "lk"); (case ht => walk_at "ty"); (case hk => decide +kernel); (case hk2 => decide +kernel))
  | (with_reducible refine r_iteNT ?_)
  | ((show (if (!true) = true then _ else _)); refine r_iteNT ?_)
  | (with_reducible refine r_r1 ?_)
  | (with_reducible refine r_maks ?_)
  | (with_reducible refine r_sfld ?_)
  | ((with_reducible refine' r_sfldE ?h1 ?h2 ?h3 ?h4 ?_); (case h1 => walk_at "lk"); (case h2 => assumption); (case h3 => assumption); (case h4 => exact (show _ + 1 ≤ 1000 from Nat.le_of_ble_eq_true rfl)))
  | (with_reducible refine r_fld ?_)
  | (with_reducible refine r_join ?_)
  | (with_reducible refine r_jcons ?_)
  | (with_reducible refine r_jnil ?_)
  | ((with_reducible refine r_rLenY ?hz ?_); (case hz => first | assumption | (refine Nat.le_trans ?_ (by decide : 100000 ≤ sizeLine); omega)))
  | (with_reducible refine r_par ?_)
  | (with_reducible refine r_pair ?_)
  | (with_reducible refine r_par3 ?_)
  | (with_reducible refine r_trip ?_)
  | ((with_reducible refine' r_gtup ?h1 ?h2 ?_); (case h1 => first | assumption | exact SqT.of (by walk_at "lk")); (case h2 => exact rfl))
  | (with_reducible refine r_gcons ?_)
  | (with_reducible refine r_gnil ?_)
  | ((with_reducible refine' r_slL ?h1 ?_); (case h1 => first | assumption | exact SqL.of (by walk_at "lk")); (intro p hp))
  | (with_reducible refine r_iTup ?_)
  | ((with_reducible refine' r_tupE ?h1 ?_); (case h1 => first | assumption | exact SqT.of (by walk_at "lk")))
  | (with_reducible refine r_m1 ?_)
  | (with_reducible refine r_isZ ?_)
  | (with_reducible refine r_sl ?_)
  | (with_reducible refine r_noPart ?_)
  | (with_reducible refine r_part ?_)
  | (with_reducible refine r_partE ?_)
  | ((with_reducible refine r_slS ?hz ?_); (case hz => first | assumption | (refine Nat.le_trans ?_ (by decide : 100000 ≤ sizeLine); omega)))
  | ((with_reducible refine' r_inT ?h1 ?h2 ?h3 ?_); (case h1 => first | assumption | (exact SqT.of (by walk_at "lk"))); (case h2 => exact rfl); (case h3 => exact rfl))
  | ((with_reducible refine' r_inL ?h1 ?h2 ?h3 ?_); (case h1 => first | assumption | (exact SqL.of (by walk_at "lk"))); (case h2 => exact rfl); (case h3 => exact rfl))
  | (with_reducible refine r_lc ?_)
  | (with_reducible refine r_for ?_)
  | (with_reducible refine r_iStr ?_)
  | (with_reducible refine r_strE ?_)
  | (with_reducible refine r_iList ?_)
  | ((with_reducible refine' r_listE ?h1 ?_); (case h1 => first | assumption | exact SqL.of (by walk_at "lk")))
  | (with_reducible refine r_iRng1 ?_)
  | ((with_reducible refine' r_rngE ?h0 ?h1 ?_); (case h0 => first | omega | (split <;> omega)); (case h1 => first | omega | (split <;> omega))))
local macro_rules | `(tactic| walk_at "rd") => `(tactic| (repeat walk_at "rd2"))
local macro_rules | `(tactic| walk_at "st") => `(tactic| (repeat (first
  | (with_reducible refine r_gname ?_)
  | (with_reducible refine r_next ?_)
  | (with_reducible refine r_seq ?_)
  | (with_reducible refine r_asg ?_)
  | (with_reducible refine r_ret ?_)
  | (with_reducible refine r_for ?_)
  | (with_reducible refine r_iRng1 ?_)
  | (with_reducible refine r_iList ?_)
  | (with_reducible refine r_cons ?_)
  | (with_reducible refine r_par ?_)
  | (with_reducible refine r_par3 ?_))))
/-! ### the pieces of two sparse files -/
theorem all_eq {α : Type} [DecidableEq α] (xs ys : List α) : ((List.range (min xs.length ys.length)).all (fun j => decide (xs[j]? = ys[j]?)) && xs.length == ys.length) = decide (xs = ys) := by
  rw [Bool.eq_iff_iff]
  simp only [Bool.and_eq_true, List.all_eq_true, List.mem_range, decide_eq_true_eq, beq_iff_eq]
  constructor
  · rintro ⟨h1, h2⟩
    apply List.ext_getElem? 
    intro j
    by_cases hj : j < xs.length
    · exact h1 j (by omega)
    · rw [List.getElem?_eq_none (by omega), List.getElem?_eq_none (by omega)]
  · rintro rfl
    exact ⟨fun _ _ => rfl, rfl⟩
section
variable {X : Cx} {pins : List (Addr × Obj)} {σ : L2.St} {H : Hp} {s : Shared} {A : Around}
theorem eqAt_byt (x y : Array UInt8) (t u : Tok) : SeqAt.EqAt A s (.bytes x t) (.bytes y u) (decide (x = y)) := fun prog w E Q h => PySem.W.eqBool_bytes (by
  rw [show decide (x.toList = y.toList) = decide (x = y) by rw [Bool.eq_iff_iff]; simp]
  exact h)
theorem eqAt_pair (I : Inv X pins σ H s) (hu : A.units < cLine) {q r : Addr} {i j : Int} {x y : Array UInt8} (h1 : H q = some (.tup [.int i, .byt x])) (h2 : H r = some (.tup [.int j, .byt y])) : SeqAt.EqAt A s (.ref q) (.ref r) (decide ((i, x) = (j, y))) := by
  by_cases hqr : q = r
  · subst hqr
    rw [h1] at h2
    injection h2 with h2
    injection h2 with h2
    injection h2 with e1 h2
    injection h2 with e2 _
    injection e1 with e1
    injection e2 with e2
    subst e1 e2
    rw [decide_eq_true rfl]
    exact SeqAt.EqAt.same _
  · obtain ⟨its, r1, p1, _⟩ := I.tuple (SqT.of h1)
    obtain ⟨its2, r2, p2, _⟩ := I.tuple (SqT.of h2)
    obtain ⟨u1, u2, rfl, v1, v2⟩ := vals2 r1
    obtain ⟨w1, w2, rfl, z1, z2⟩ := vals2 r2
    obtain ⟨t1, rfl⟩ := (show ∃ t, u1 = Value.int i t from v1)
    obtain ⟨t2, rfl⟩ := (show ∃ t, u2 = Value.bytes x t from v2)
    obtain ⟨t3, rfl⟩ := (show ∃ t, w1 = Value.int j t from z1)
    obtain ⟨t4, rfl⟩ := (show ∃ t, w2 = Value.bytes y t from z2)
    have h := SeqAt.RcAt.tuples (A := A) (e := fun k => if k = 0 then (i == j) else decide (x = y)) p1 p2 hu (fun k g1 g2 => by
      match k, g1, g2 with
      | 0, _, _ => exact SeqAt.EqAt.int_int i t1 j t3
      | 1, _, _ => exact eqAt_byt x y t2 t4)
    have e : ((List.range (min #[Value.int i t1, Value.bytes x t2].size #[Value.int j t3, Value.bytes y t4].size)).all (fun k => if k = 0 then (i == j) else decide (x = y)) && #[Value.int i t1, Value.bytes x t2].size == #[Value.int j t3, Value.bytes y t4].size) = decide ((i, x) = (j, y)) := by
      show ((List.range 2).all _ && true) = _
      rw [Bool.eq_iff_iff]
      simp [List.range_succ]
    have e' := e
    refine SeqAt.EqAt.of_refs hqr ?_
    rw [← e']
    exact h
def rEqPc : R2 := fun x y H Q => ∃ p r ps rs, x = .ref p ∧ y = .ref r ∧ PcsT H p ps ∧ PcsT H r rs ∧ Q (.bl (decide (ps = rs))) H
theorem op_eqPc (hu : X.A.units + 2 < cLine) : OpR X (compareOp .Eq) rEqPc := by
  intro pins s σ H x y v u Q I rx ry h
  obtain ⟨p, r, ps, rs, rfl, rfl, ⟨as, h1, ha⟩, ⟨bs, h2, hb⟩, q⟩ := h
  cases (show v = Value.ref p from rx)
  cases (show u = Value.ref r from ry)
  obtain ⟨its, r1, p1, _⟩ := I.tuple (SqT.of h1)
  obtain ⟨its2, r2, p2, _⟩ := I.tuple (SqT.of h2)
  have l1 := ha.length
  have l2 := hb.length
  have g1 := r1.length
  have g2 := r2.length
  rw [List.length_map] at g1 g2
  have h := SeqAt.RcAt.tuples (A := X.A) (e := fun k => decide (ps[k]? = rs[k]?)) p1 p2 (by omega) (fun k k1 k2 => by
    have k1' : k < its.length := by simpa using k1
    have k2' : k < its2.length := by simpa using k2
    obtain ⟨a, ha1⟩ : ∃ a, as[k]? = some a := ⟨as[k]'(by omega), List.getElem?_eq_getElem _⟩
    obtain ⟨b, hb1⟩ : ∃ b, bs[k]? = some b := ⟨bs[k]'(by omega), List.getElem?_eq_getElem _⟩
    obtain ⟨sa, hsa, ea⟩ := paired_at ha ha1
    obtain ⟨sb, hsb, eb⟩ := paired_at hb hb1
    obtain ⟨u1, hu1, ru1⟩ := r1.get (i := k) (x := .ref a) (by rw [List.getElem?_map, ha1]; rfl)
    obtain ⟨u2, hu2, ru2⟩ := r2.get (i := k) (x := .ref b) (by rw [List.getElem?_map, hb1]; rfl)
    cases (show u1 = Value.ref a from ru1)
    cases (show u2 = Value.ref b from ru2)
    have e1 : its.toArray[k] = Value.ref a := by
      have := List.getElem?_eq_getElem k1'
      rw [hu1] at this
      simpa using (Option.some.inj this).symm
    have e2 : its2.toArray[k] = Value.ref b := by
      have := List.getElem?_eq_getElem k2'
      rw [hu2] at this
      simpa using (Option.some.inj this).symm
    rw [e1, e2, hsa, hsb]
    have := eqAt_pair (A := X.A.in1) I (show X.A.in1.units < cLine from by show X.A.units + 1 < cLine; omega) ea eb
    rw [show decide (some sa = some sb) = decide ((sa.1, sa.2) = (sb.1, sb.2)) by rw [Bool.eq_iff_iff]; simp [Prod.ext_iff]]
    exact this)
  refine h X.prog X.w _ _ ⟨.bl (decide (ps = rs)), H, I, ?_, q⟩
  show Value.bool _ = Value.bool _
  rw [← all_eq, List.size_toArray, List.size_toArray, ← g1, ← g2, l1, l2]
end
end Th
namespace Th
open PySem PySem.Spec PyProof.Rows L2
local macro_rules | `(tactic| walk_at "lk") => `(tactic| first
  | assumption
  | exact upd_same
  | (refine upd_old (by assumption) ?_; walk_at "lk")
  | (refine upd_diff (by assumption) ?_; walk_at "lk")
  | (refine upd_diff (Ne.symm (by assumption)) ?_; walk_at "lk"))
local macro_rules | `(tactic| walk_at "cnd") => `(tactic| first
  | omega
  | (refine ⟨by omega, by omega⟩)
  | (refine ⟨by omega, by omega, by omega⟩)
  | (refine .inl ⟨by omega, by omega⟩)
  | (refine .inr ⟨by omega, by omega⟩)
  | (exact (show CPow _ _ from ⟨by decide, by decide, by omega⟩))
  | decide +kernel
  | (unfold CMulW; decide +kernel)
  | (exact wide_div (b := 64) (by omega) (by omega) (by decide) (by decide)))
local macro_rules | `(tactic| walk_at "rd1") => `(tactic| first
  | (with_reducible refine r_seq ?_)
  | (with_reducible refine r_asg ?_)
  | (with_reducible refine r_ret ?_)
  | (with_reducible refine r_if ?_)
  | (with_reducible refine r_gname ?_)
  | ((with_reducible refine' r_var ?hv ?_); (case hv => exact rfl))
  | (with_reducible refine r_c ?_)
  | (with_reducible refine r_op ?_)
  | (with_reducible refine r_I0 ?_)
  | ((with_reducible refine r_I ?hc ?_); (case hc => walk_at "cnd"))
  | (with_reducible refine r_test ?_)
  | (with_reducible refine r_tB ?_)
  | (with_reducible refine r_bl ?_)
  | (with_reducible refine r_not ?_)
  | (with_reducible refine r_and ?_)
  | (with_reducible refine r_or ?_)
  | (with_reducible refine r_ifE ?_)
  | (with_reducible refine r_notV ?_)
  | (with_reducible refine r_andV ?_)
  | (with_reducible refine r_orV ?_)
  | (with_reducible refine r_chain ?_)
  | (with_reducible refine r_cb ?_)
  | (with_reducible refine r_call ?_)
  | (with_reducible refine r_callN ?_)
  | (with_reducible refine r_nil ?_)
  | (with_reducible refine r_cons ?_)
  | ((with_reducible refine r_lst ?_))
  | ((with_reducible refine r_tup ?_))
  | ((with_reducible refine r_new ?_ ?_); (exact Nat.le_of_ble_eq_true rfl); (intro p hp))
  | (with_reducible refine r_rInt1 ?_)
  | (with_reducible refine r_rIntB ?_)
  | (with_reducible refine r_rAbs ?_)
  | (with_reducible refine r_rMin2 ?_)
  | (with_reducible refine r_rMax2 ?_)
  | ((with_reducible refine r_rLenZ ?hz ?_); (case hz => first | assumption | exact Nat.le_of_ble_eq_true rfl | (refine Nat.le_trans ?_ (by decide : 100000 ≤ sizeLine); omega)))
  | ((with_reducible refine r_addZ ?hz ?_); (case hz => (refine Nat.le_trans ?_ (by decide : 100000 ≤ sizeLine); first | omega | (simp only [Str.length] at *; simp; omega))))
  | ((with_reducible refine r_mulZ ?hz ?h0 ?h1 ?_); (case hz => first | omega | exact Nat.le_of_ble_eq_true rfl); (case h0 => omega); (case h1 => omega))
  | ((with_reducible refine' r_rLenQ ?h1 ?_); (case h1 => first | (exact .inl (by assumption)) | (exact .inr (by assumption)) | (exact .inl (SqL.of (by walk_at "lk"))) | (exact .inr (SqT.of (by walk_at "lk")))))
  | ((with_reducible refine r_eq ?hs ?_); (case hs => exact rfl))
  | ((with_reducible refine r_ne ?hs ?_); (case hs => exact rfl))
  | (with_reducible refine r_inC ?_)
  | ((with_reducible refine' r_cat ?h1 ?h2 ?h3 ?_); (case h1 => walk_at "lk"); (case h2 => walk_at "lk"); (case h3 => exact Nat.le_of_ble_eq_true rfl); (intro p hp))
  | ((with_reducible refine' r_rep ?h1 ?h2 ?h3 ?h4 ?_); (case h1 => walk_at "lk"); (case h2 => omega); (case h3 => omega); (case h4 => exact Nat.le_of_ble_eq_true rfl); (intro p hp))
  | ((with_reducible refine' r_append ?h1 ?h2 ?_); (case h1 => walk_at "lk"); (case h2 => first | exact (show _ + 1 ≤ sizeLine from Nat.le_of_ble_eq_true rfl) | exact Nat.lt_of_le_of_lt (by omega : _ ≤ 100000) (by decide)))
  | (with_reducible refine r_bm ?_)
  | ((with_reducible refine' r_tyL ?h1 ?_); (case h1 => walk_at "lk"))
  | ((with_reducible refine' r_ixL ?h1 ?h2 ?_); (case h1 => first | assumption | exact SqL.of (by walk_at "lk")); (case h2 => exact rfl))
  | ((with_reducible refine' r_ixT ?h1 ?h2 ?_); (case h1 => first | assumption | exact SqT.of (by walk_at "lk")); (case h2 => exact rfl))
  | (with_reducible refine r_gsub ?_)
  | ((with_reducible refine' r_setL ?h1 ?h2 ?_); (case h1 => walk_at "lk"); (case h2 => exact rfl))
  | (with_reducible refine r_un ?_)
  | (with_reducible refine r_neg ?_)
  | (with_reducible refine r_iteT ?_)
  | (with_reducible refine r_iteNT ?_)
  | (with_reducible refine r_iteNF ?_)
  | (with_reducible refine r_iteF ?_)
  | (with_reducible refine r_next ?_)
  | (with_reducible refine r_drop ?_)
  | (with_reducible refine r_cont ?_)
  | (with_reducible refine r_brk ?_))
local macro_rules | `(tactic| walk_at "ty") => `(tactic| first
  | assumption
  | exact .base (.int _)
  | exact .base (.str _)
  | exact .base (.bl _)
  | exact .base .non
  | exact .byt _
  | exact .base (.lst (by walk_at "lk"))
  | exact .base (.tup (by walk_at "lk")))
local macro_rules | `(tactic| walk_at "rd2") => `(tactic| first
  | walk_at "rd1"
  | ((with_reducible refine' r_isi true ?ht ?hk ?_); (case ht => walk_at "ty"); (case hk => first | assumption | decide +kernel))
  | ((with_reducible refine' r_isi false ?ht ?hk ?_); (case ht => walk_at "ty"); (case hk => first | assumption | decide +kernel))
  | ((with_reducible refine' r_isiT2 true true ?hT ?ht ?hk ?hk2 ?_); (case hT => walk_at "lk"); (case ht => walk_at "ty"); (case hk => decide +kernel); (case hk2 => decide +kernel))
  | ((with_reducible refine' r_isiT2 true false ?hT ?ht ?hk ?hk2 ?_); (case hT => walk_at "lk"); (case ht => walk_at "ty"); (case hk => decide +kernel); (case hk2 => decide +kernel))
  | ((with_reducible refine' r_isiT2 false true ?hT ?ht ?hk ?hk2 ?_); (case hT => walk_at "lk"); (case ht => walk_at "ty"); (case hk => decide +kernel); (case hk2 => decide +kernel))
  | ((with_reducible refine' r_isiT2 false false ?hT ?ht ?hk ?hk2 ?_); (case hT => walk_at "lk"); (case ht => walk_at "ty"); (case hk => decide +kernel); (case hk2 => decide +kernel))
  | (with_reducible refine r_iteNT ?_)
  | ((show (if (!true) = true then _ else _)); refine r_iteNT ?_)
  | (with_reducible refine r_r1 ?_)
  | (with_reducible refine r_maks ?_)
  | (with_reducible refine r_sfld ?_)
  | ((with_reducible refine' r_sfldE ?h1 ?h2 ?h3 ?h4 ?_); (case h1 => walk_at "lk"); (case h2 => assumption); (case h3 => assumption); (case h4 => exact (show _ + 1 ≤ 1000 from Nat.le_of_ble_eq_true rfl)))
  | (with_reducible refine r_fld ?_)
  | (with_reducible refine r_join ?_)
  | (with_reducible refine r_jcons ?_)
  | (with_reducible refine r_jnil ?_)
  | ((with_reducible refine r_rLenY ?hz ?_); (case hz => first | assumption | (refine Nat.le_trans ?_ (by decide : 100000 ≤ sizeLine); omega)))
  | (with_reducible refine r_par ?_)
  | (with_reducible refine r_pair ?_)
  | (with_reducible refine r_par3 ?_)
  | (with_reducible refine r_trip ?_)
  | ((with_reducible refine' r_gtup ?h1 ?h2 ?_); (case h1 => first | assumption | exact SqT.of (by walk_at "lk")); (case h2 => exact rfl))
  | (with_reducible refine r_gcons ?_)
  | (with_reducible refine r_gnil ?_)
  | ((with_reducible refine' r_slL ?h1 ?_); (case h1 => first | assumption | exact SqL.of (by walk_at "lk")); (intro p hp))
  | (with_reducible refine r_iTup ?_)
  | ((with_reducible refine' r_tupE ?h1 ?_); (case h1 => first | assumption | exact SqT.of (by walk_at "lk")))
  | (with_reducible refine r_m1 ?_)
  | (with_reducible refine r_isZ ?_)
  | (with_reducible refine r_sl ?_)
  | (with_reducible refine r_noPart ?_)
  | (with_reducible refine r_part ?_)
  | (with_reducible refine r_partE ?_)
  | ((with_reducible refine r_slS ?hz ?_); (case hz => first | assumption | (refine Nat.le_trans ?_ (by decide : 100000 ≤ sizeLine); omega)))
  | ((with_reducible refine' r_inT ?h1 ?h2 ?h3 ?_); (case h1 => first | assumption | (exact SqT.of (by walk_at "lk"))); (case h2 => exact rfl); (case h3 => exact rfl))
  | ((with_reducible refine' r_inL ?h1 ?h2 ?h3 ?_); (case h1 => first | assumption | (exact SqL.of (by walk_at "lk"))); (case h2 => exact rfl); (case h3 => exact rfl))
  | (with_reducible refine r_lc ?_)
  | (with_reducible refine r_for ?_)
  | (with_reducible refine r_iStr ?_)
  | (with_reducible refine r_strE ?_)
  | (with_reducible refine r_iList ?_)
  | ((with_reducible refine' r_listE ?h1 ?_); (case h1 => first | assumption | exact SqL.of (by walk_at "lk")))
  | (with_reducible refine r_iRng1 ?_)
  | ((with_reducible refine' r_rngE ?h0 ?h1 ?_); (case h0 => first | omega | (split <;> omega)); (case h1 => first | omega | (split <;> omega))))
local macro_rules | `(tactic| walk_at "rd") => `(tactic| (repeat walk_at "rd2"))
local macro_rules | `(tactic| walk_at "st") => `(tactic| (repeat (first
  | (with_reducible refine r_gname ?_)
  | (with_reducible refine r_next ?_)
  | (with_reducible refine r_seq ?_)
  | (with_reducible refine r_asg ?_)
  | (with_reducible refine r_ret ?_)
  | (with_reducible refine r_for ?_)
  | (with_reducible refine r_iRng1 ?_)
  | (with_reducible refine r_iList ?_)
  | (with_reducible refine r_cons ?_)
  | (with_reducible refine r_par ?_)
  | (with_reducible refine r_par3 ?_))))
/-! ### the members' own __eq__ -/
theorem kit_self {K : PySem.W.Frag} {C : Addr} : PySem.W.kitOne K (.ref C) (.ref C) = some true := by
  unfold PySem.W.kitOne
  rw [if_pos (beq_self_eq_true _)]
theorem byteArr_inj {x y : List Int} (hx : x.all inByte = true) (hy : y.all inByte = true) (h : byteArr x = byteArr y) : x = y := by
  rw [← byteArr_ints hx, ← byteArr_ints hy, h]
theorem byt_iff {x y : List Int} (hx : x.all inByte = true) (hy : y.all inByte = true) : (V.byt (byteArr x) = V.byt (byteArr y)) ↔ x = y := ⟨fun h => byteArr_inj hx hy (by injection h), fun h => by rw [h]⟩
theorem pcs_iff : ∀ {x y : List (Int × List Int)}, (∀ s ∈ x, s.2.all inByte = true) → (∀ s ∈ y, s.2.all inByte = true) → ((x.map fun s => (s.1, byteArr s.2)) = (y.map fun s => (s.1, byteArr s.2)) ↔ x = y)
  | [], [], _, _ => by simp
  | [], _ :: _, _, _ => by simp
  | _ :: _, [], _, _ => by simp
  | a :: x, b :: y, hx, hy => by
    have ih := pcs_iff (x := x) (y := y) (fun s hs => hx s (List.mem_cons_of_mem _ hs)) (fun s hs => hy s (List.mem_cons_of_mem _ hs))
    rw [List.map_cons, List.map_cons, List.cons.injEq, List.cons.injEq, ih]
    refine and_congr_left fun _ => ⟨fun h => ?_, fun h => by rw [h]⟩
    obtain ⟨h1, h2⟩ := Prod.mk.injEq .. ▸ h
    exact Prod.ext h1 (byteArr_inj (hx a List.mem_cons_self) (hy b List.mem_cons_self) h2)
def RF (C : Addr) : Addr → Addr → Hp → Bool → Prop := fun a c H r => ∃ dx dy n b t ns n2 b2 t2 ns2, H a = some (.ins C dx (fileF n (byteArr ns) b t)) ∧ H c = some (.ins C dy (fileF n2 (byteArr ns2) b2 t2)) ∧ ns.all inByte = true ∧ ns2.all inByte = true ∧ r = decide (Mem.file n b t ns = Mem.file n2 b2 t2 ns2)
def RD (C : Addr) : Addr → Addr → Hp → Bool → Prop := fun a c H r => ∃ dx dy n b t n2 b2 t2, H a = some (.ins C dx (dirF n b t)) ∧ H c = some (.ins C dy (dirF n2 b2 t2)) ∧ r = decide (Mem.dir n b t = Mem.dir n2 b2 t2)
def RY (C : Addr) : Addr → Addr → Hp → Bool → Prop := fun a c H r => ∃ dx dy n b t g n2 b2 t2 g2, H a = some (.ins C dx (symF n g b t)) ∧ H c = some (.ins C dy (symF n2 g2 b2 t2)) ∧ r = decide (Mem.sym n b t g = Mem.sym n2 b2 t2 g2)
def RL (C : Addr) : Addr → Addr → Hp → Bool → Prop := fun a c H r => ∃ dx dy n b t g n2 b2 t2 g2, H a = some (.ins C dx (symF n g b t)) ∧ H c = some (.ins C dy (symF n2 g2 b2 t2)) ∧ r = decide (Mem.lnk n b t g = Mem.lnk n2 b2 t2 g2)
def RS (C : Addr) : Addr → Addr → Hp → Bool → Prop := fun a c H r => ∃ dx dy n b t z sp n2 b2 t2 z2 sp2 p p2, H a = some (.ins C dx (spaF n z p b t)) ∧ H c = some (.ins C dy (spaF n2 z2 p2 b2 t2)) ∧ PcsT H p (sp.map fun s => (s.1, byteArr s.2)) ∧ PcsT H p2 (sp2.map fun s => (s.1, byteArr s.2)) ∧
  (∀ s ∈ sp, s.2.all inByte = true) ∧ (∀ s ∈ sp2, s.2.all inByte = true) ∧ r = decide (Mem.sparse n b t z sp = Mem.sparse n2 b2 t2 z2 sp2)
section
variable {P : Program} {w : World} {K : PySem.W.Frag} {mg : Str → Option Value} {base : Heap}
theorem ok_eqDirectory {f aM : Addr} {fd : FuncData} {k : Nat} {c : Cs} (F : Fun K "__eq__" "Directory.__eq__" s_Directory___eq__ f fd) (m1 : mg "isinstance" = none) (m_Dir : mg "Directory" = some (.ref c.D)) (cf : CF K c.D aM "directory") : FnOk P w K mg base CX0 (k + 2) f fd ["self", "other"] (spEqM K c.D (RD c.D)) := by
  refine F.ok sc_Directory___eq__ (fun vs H Q E h => ?_) (fun cdv A outer s H vs Q E hr h => ?_)
  · obtain ⟨a, u, rfl, _⟩ := h
    rfl
  · obtain ⟨a, u, rfl, h⟩ := h
    have hu := hu_of hr
    have hu64 := hr.units
    have nd := sc_Directory___eq__.nd
    refine ⟨_, (pss_one (ps_ret (pe_and (pe_callB (call_isiK1 K) (by rfl) (by assumption) (by decide +kernel) (pa_cons (pv 1) (pa_cons (pe_glob (v := .ref c.D) (by rfl) m_Dir (by first | exact rfl | exact ⟨_, rfl⟩)) pa_nil))) (pe_and (pe_cmpR op_eq (pe_fld (pv 0) rfl) (pe_fld (pv 1) rfl) (nomark _)) (pe_and (pe_cmpR op_eq (pe_fld (pv 0) rfl) (pe_fld (pv 1) rfl) (nomark _)) (pe_one (pe_cmpR op_eq (pe_fld (pv 0) rfl) (pe_fld (pv 1) rfl) (nomark _)))))))), ?_⟩
    rcases h with ⟨t0, ht, hk, q⟩ | ⟨d, r, rfl, h, q⟩
    · walk_at "rd"
      refine ⟨u, .ref c.D, t0, .ref c.D, false, rfl, .own _, ht, hk, ?_⟩
      walk_at "rd"
      exact q
    · obtain ⟨dx, dy, n, b, t, n2, b2, t2, h1, h2, rfl⟩ := h
      walk_at "rd"
      refine ⟨.ref d, .ref c.D, .ref c.D, .ref c.D, true, rfl, .own _, .base (.ins h2 cf.cl cf.ha cf.hn cf.htk cf.hm), kit_self, ?_⟩
      walk_at "rd"
      refine r_fldE h1 cf.cl cf.n1 rfl ?_
      walk_at "rd"
      refine r_fldE h2 cf.cl cf.n1 rfl ?_
      walk_at "rd"
      refine r_iteD (fun e => ?_) (fun e => ?_)
      case refine_2 =>
        refine (congrArg (fun z => Q (.bl z) _) (decide_eq_false ?_)).mp q
        intro e2
        apply e
        injection e2
        simp [*]
      have ee : n = n2 := by injection e
      subst ee
      walk_at "rd"
      refine r_fldE h1 cf.cl cf.n2 rfl ?_
      walk_at "rd"
      refine r_fldE h2 cf.cl cf.n2 rfl ?_
      walk_at "rd"
      refine r_iteD (fun e => ?_) (fun e => ?_)
      case refine_2 =>
        refine (congrArg (fun z => Q (.bl z) _) (decide_eq_false ?_)).mp q
        intro e2
        apply e
        injection e2
        simp [*]
      have ee : b = b2 := by injection e
      subst ee
      walk_at "rd"
      refine r_fldE h1 cf.cl cf.n3 rfl ?_
      walk_at "rd"
      refine r_fldE h2 cf.cl cf.n3 rfl ?_
      walk_at "rd"
      refine (congrArg (fun z => Q (.bl z) _) ?_).mp q
      simp
theorem ok_eqFile {f aM : Addr} {fd : FuncData} {k : Nat} {c : Cs} (F : Fun K "__eq__" "File.__eq__" s_File___eq__ f fd) (m1 : mg "isinstance" = none) (m_File : mg "File" = some (.ref c.F)) (cf : CF K c.F aM "file") (tX : NoAttr K c.F "data") : FnOk P w K mg base CX0 (k + 2) f fd ["self", "other"] (spEqM K c.F (RF c.F)) := by
  refine F.ok sc_File___eq__ (fun vs H Q E h => ?_) (fun cdv A outer s H vs Q E hr h => ?_)
  · obtain ⟨a, u, rfl, _⟩ := h
    rfl
  · obtain ⟨a, u, rfl, h⟩ := h
    have hu := hu_of hr
    have hu64 := hr.units
    have nd := sc_File___eq__.nd
    refine ⟨_, (pss_one (ps_ret (pe_and (pe_callB (call_isiK1 K) (by rfl) (by assumption) (by decide +kernel) (pa_cons (pv 1) (pa_cons (pe_glob (v := .ref c.F) (by rfl) m_File (by first | exact rfl | exact ⟨_, rfl⟩)) pa_nil))) (pe_and (pe_cmpR op_eq (pe_fld (pv 0) rfl) (pe_fld (pv 1) rfl) (nomark _)) (pe_and (pe_cmpR op_eq (pe_fld (pv 0) rfl) (pe_fld (pv 1) rfl) (nomark _)) (pe_and (pe_cmpR op_eq (pe_fld (pv 0) rfl) (pe_fld (pv 1) rfl) (nomark _)) (pe_one (pe_cmpR op_eq (pe_fld (pv 0) rfl) (pe_fld (pv 1) rfl) (nomark _))))))))), ?_⟩
    rcases h with ⟨t0, ht, hk, q⟩ | ⟨d, r, rfl, h, q⟩
    · walk_at "rd"
      refine ⟨u, .ref c.F, t0, .ref c.F, false, rfl, .own _, ht, hk, ?_⟩
      walk_at "rd"
      exact q
    · obtain ⟨dx, dy, n, b, t, ns, n2, b2, t2, ns2, h1, h2, o1, o2, rfl⟩ := h
      walk_at "rd"
      refine ⟨.ref d, .ref c.F, .ref c.F, .ref c.F, true, rfl, .own _, .base (.ins h2 cf.cl cf.ha cf.hn cf.htk cf.hm), kit_self, ?_⟩
      walk_at "rd"
      refine r_fldE h1 cf.cl cf.n1 rfl ?_
      walk_at "rd"
      refine r_fldE h2 cf.cl cf.n1 rfl ?_
      walk_at "rd"
      refine r_iteD (fun e => ?_) (fun e => ?_)
      case refine_2 =>
        refine (congrArg (fun z => Q (.bl z) _) (decide_eq_false ?_)).mp q
        intro e2
        apply e
        injection e2
        simp [*]
      have ee : n = n2 := by injection e
      subst ee
      walk_at "rd"
      refine r_fldE h1 cf.cl tX rfl ?_
      walk_at "rd"
      refine r_fldE h2 cf.cl tX rfl ?_
      walk_at "rd"
      refine r_iteD (fun e => ?_) (fun e => ?_)
      case refine_2 =>
        refine (congrArg (fun z => Q (.bl z) _) (decide_eq_false ?_)).mp q
        intro e2
        apply e
        injection e2
        simp [*]
      have ee : ns = ns2 := (byt_iff o1 o2).mp e
      subst ee
      walk_at "rd"
      refine r_fldE h1 cf.cl cf.n2 rfl ?_
      walk_at "rd"
      refine r_fldE h2 cf.cl cf.n2 rfl ?_
      walk_at "rd"
      refine r_iteD (fun e => ?_) (fun e => ?_)
      case refine_2 =>
        refine (congrArg (fun z => Q (.bl z) _) (decide_eq_false ?_)).mp q
        intro e2
        apply e
        injection e2
        simp [*]
      have ee : b = b2 := by injection e
      subst ee
      walk_at "rd"
      refine r_fldE h1 cf.cl cf.n3 rfl ?_
      walk_at "rd"
      refine r_fldE h2 cf.cl cf.n3 rfl ?_
      walk_at "rd"
      refine (congrArg (fun z => Q (.bl z) _) ?_).mp q
      simp
theorem ok_eqSymlink {f aM : Addr} {fd : FuncData} {k : Nat} {c : Cs} (F : Fun K "__eq__" "Symlink.__eq__" s_Symlink___eq__ f fd) (m1 : mg "isinstance" = none) (m_Sym : mg "Symlink" = some (.ref c.Y)) (cf : CF K c.Y aM "symlink") (tX : NoAttr K c.Y "target") : FnOk P w K mg base CX0 (k + 2) f fd ["self", "other"] (spEqM K c.Y (RY c.Y)) := by
  refine F.ok sc_Symlink___eq__ (fun vs H Q E h => ?_) (fun cdv A outer s H vs Q E hr h => ?_)
  · obtain ⟨a, u, rfl, _⟩ := h
    rfl
  · obtain ⟨a, u, rfl, h⟩ := h
    have hu := hu_of hr
    have hu64 := hr.units
    have nd := sc_Symlink___eq__.nd
    refine ⟨_, (pss_one (ps_ret (pe_and (pe_callB (call_isiK1 K) (by rfl) (by assumption) (by decide +kernel) (pa_cons (pv 1) (pa_cons (pe_glob (v := .ref c.Y) (by rfl) m_Sym (by first | exact rfl | exact ⟨_, rfl⟩)) pa_nil))) (pe_and (pe_cmpR op_eq (pe_fld (pv 0) rfl) (pe_fld (pv 1) rfl) (nomark _)) (pe_and (pe_cmpR op_eq (pe_fld (pv 0) rfl) (pe_fld (pv 1) rfl) (nomark _)) (pe_and (pe_cmpR op_eq (pe_fld (pv 0) rfl) (pe_fld (pv 1) rfl) (nomark _)) (pe_one (pe_cmpR op_eq (pe_fld (pv 0) rfl) (pe_fld (pv 1) rfl) (nomark _))))))))), ?_⟩
    rcases h with ⟨t0, ht, hk, q⟩ | ⟨d, r, rfl, h, q⟩
    · walk_at "rd"
      refine ⟨u, .ref c.Y, t0, .ref c.Y, false, rfl, .own _, ht, hk, ?_⟩
      walk_at "rd"
      exact q
    · obtain ⟨dx, dy, n, b, t, g, n2, b2, t2, g2, h1, h2, rfl⟩ := h
      walk_at "rd"
      refine ⟨.ref d, .ref c.Y, .ref c.Y, .ref c.Y, true, rfl, .own _, .base (.ins h2 cf.cl cf.ha cf.hn cf.htk cf.hm), kit_self, ?_⟩
      walk_at "rd"
      refine r_fldE h1 cf.cl cf.n1 rfl ?_
      walk_at "rd"
      refine r_fldE h2 cf.cl cf.n1 rfl ?_
      walk_at "rd"
      refine r_iteD (fun e => ?_) (fun e => ?_)
      case refine_2 =>
        refine (congrArg (fun z => Q (.bl z) _) (decide_eq_false ?_)).mp q
        intro e2
        apply e
        injection e2
        simp [*]
      have ee : n = n2 := by injection e
      subst ee
      walk_at "rd"
      refine r_fldE h1 cf.cl tX rfl ?_
      walk_at "rd"
      refine r_fldE h2 cf.cl tX rfl ?_
      walk_at "rd"
      refine r_iteD (fun e => ?_) (fun e => ?_)
      case refine_2 =>
        refine (congrArg (fun z => Q (.bl z) _) (decide_eq_false ?_)).mp q
        intro e2
        apply e
        injection e2
        simp [*]
      have ee : g = g2 := by injection e
      subst ee
      walk_at "rd"
      refine r_fldE h1 cf.cl cf.n2 rfl ?_
      walk_at "rd"
      refine r_fldE h2 cf.cl cf.n2 rfl ?_
      walk_at "rd"
      refine r_iteD (fun e => ?_) (fun e => ?_)
      case refine_2 =>
        refine (congrArg (fun z => Q (.bl z) _) (decide_eq_false ?_)).mp q
        intro e2
        apply e
        injection e2
        simp [*]
      have ee : b = b2 := by injection e
      subst ee
      walk_at "rd"
      refine r_fldE h1 cf.cl cf.n3 rfl ?_
      walk_at "rd"
      refine r_fldE h2 cf.cl cf.n3 rfl ?_
      walk_at "rd"
      refine (congrArg (fun z => Q (.bl z) _) ?_).mp q
      simp
theorem ok_eqLink {f aM : Addr} {fd : FuncData} {k : Nat} {c : Cs} (F : Fun K "__eq__" "Link.__eq__" s_Link___eq__ f fd) (m1 : mg "isinstance" = none) (m_Link : mg "Link" = some (.ref c.L)) (cf : CF K c.L aM "link") (tX : NoAttr K c.L "target") : FnOk P w K mg base CX0 (k + 2) f fd ["self", "other"] (spEqM K c.L (RL c.L)) := by
  refine F.ok sc_Link___eq__ (fun vs H Q E h => ?_) (fun cdv A outer s H vs Q E hr h => ?_)
  · obtain ⟨a, u, rfl, _⟩ := h
    rfl
  · obtain ⟨a, u, rfl, h⟩ := h
    have hu := hu_of hr
    have hu64 := hr.units
    have nd := sc_Link___eq__.nd
    refine ⟨_, (pss_one (ps_ret (pe_and (pe_callB (call_isiK1 K) (by rfl) (by assumption) (by decide +kernel) (pa_cons (pv 1) (pa_cons (pe_glob (v := .ref c.L) (by rfl) m_Link (by first | exact rfl | exact ⟨_, rfl⟩)) pa_nil))) (pe_and (pe_cmpR op_eq (pe_fld (pv 0) rfl) (pe_fld (pv 1) rfl) (nomark _)) (pe_and (pe_cmpR op_eq (pe_fld (pv 0) rfl) (pe_fld (pv 1) rfl) (nomark _)) (pe_and (pe_cmpR op_eq (pe_fld (pv 0) rfl) (pe_fld (pv 1) rfl) (nomark _)) (pe_one (pe_cmpR op_eq (pe_fld (pv 0) rfl) (pe_fld (pv 1) rfl) (nomark _))))))))), ?_⟩
    rcases h with ⟨t0, ht, hk, q⟩ | ⟨d, r, rfl, h, q⟩
    · walk_at "rd"
      refine ⟨u, .ref c.L, t0, .ref c.L, false, rfl, .own _, ht, hk, ?_⟩
      walk_at "rd"
      exact q
    · obtain ⟨dx, dy, n, b, t, g, n2, b2, t2, g2, h1, h2, rfl⟩ := h
      walk_at "rd"
      refine ⟨.ref d, .ref c.L, .ref c.L, .ref c.L, true, rfl, .own _, .base (.ins h2 cf.cl cf.ha cf.hn cf.htk cf.hm), kit_self, ?_⟩
      walk_at "rd"
      refine r_fldE h1 cf.cl cf.n1 rfl ?_
      walk_at "rd"
      refine r_fldE h2 cf.cl cf.n1 rfl ?_
      walk_at "rd"
      refine r_iteD (fun e => ?_) (fun e => ?_)
      case refine_2 =>
        refine (congrArg (fun z => Q (.bl z) _) (decide_eq_false ?_)).mp q
        intro e2
        apply e
        injection e2
        simp [*]
      have ee : n = n2 := by injection e
      subst ee
      walk_at "rd"
      refine r_fldE h1 cf.cl tX rfl ?_
      walk_at "rd"
      refine r_fldE h2 cf.cl tX rfl ?_
      walk_at "rd"
      refine r_iteD (fun e => ?_) (fun e => ?_)
      case refine_2 =>
        refine (congrArg (fun z => Q (.bl z) _) (decide_eq_false ?_)).mp q
        intro e2
        apply e
        injection e2
        simp [*]
      have ee : g = g2 := by injection e
      subst ee
      walk_at "rd"
      refine r_fldE h1 cf.cl cf.n2 rfl ?_
      walk_at "rd"
      refine r_fldE h2 cf.cl cf.n2 rfl ?_
      walk_at "rd"
      refine r_iteD (fun e => ?_) (fun e => ?_)
      case refine_2 =>
        refine (congrArg (fun z => Q (.bl z) _) (decide_eq_false ?_)).mp q
        intro e2
        apply e
        injection e2
        simp [*]
      have ee : b = b2 := by injection e
      subst ee
      walk_at "rd"
      refine r_fldE h1 cf.cl cf.n3 rfl ?_
      walk_at "rd"
      refine r_fldE h2 cf.cl cf.n3 rfl ?_
      walk_at "rd"
      refine (congrArg (fun z => Q (.bl z) _) ?_).mp q
      simp
theorem ok_eqSparse {f aM : Addr} {fd : FuncData} {k : Nat} {c : Cs} (F : Fun K "__eq__" "Sparse.__eq__" s_Sparse___eq__ f fd) (m1 : mg "isinstance" = none) (m_Sparse : mg "Sparse" = some (.ref c.S)) (cf : CF K c.S aM "sparse") (tZ : NoAttr K c.S "size") (tX : NoAttr K c.S "pieces") : FnOk P w K mg base CX0 (k + 2) f fd ["self", "other"] (spEqM K c.S (RS c.S)) := by
  refine F.ok sc_Sparse___eq__ (fun vs H Q E h => ?_) (fun cdv A outer s H vs Q E hr h => ?_)
  · obtain ⟨a, u, rfl, _⟩ := h
    rfl
  · obtain ⟨a, u, rfl, h⟩ := h
    have hu := hu_of hr
    have hu64 := hr.units
    have nd := sc_Sparse___eq__.nd
    refine ⟨_, (pss_one (ps_ret (pe_and (pe_callB (call_isiK1 K) (by rfl) (by assumption) (by decide +kernel) (pa_cons (pv 1) (pa_cons (pe_glob (v := .ref c.S) (by rfl) m_Sparse (by first | exact rfl | exact ⟨_, rfl⟩)) pa_nil))) (pe_and (pe_cmpR op_eq (pe_fld (pv 0) rfl) (pe_fld (pv 1) rfl) (nomark _)) (pe_and (pe_cmpR op_eq (pe_fld (pv 0) rfl) (pe_fld (pv 1) rfl) (nomark _)) (pe_and (pe_cmpR (op_eqPc (Nat.lt_of_le_of_lt (Nat.add_le_add_left (by decide) _) hu64)) (pe_fld (pv 0) rfl) (pe_fld (pv 1) rfl) (nomark _)) (pe_and (pe_cmpR op_eq (pe_fld (pv 0) rfl) (pe_fld (pv 1) rfl) (nomark _)) (pe_one (pe_cmpR op_eq (pe_fld (pv 0) rfl) (pe_fld (pv 1) rfl) (nomark _)))))))))), ?_⟩
    rcases h with ⟨t0, ht, hk, q⟩ | ⟨d, r, rfl, h, q⟩
    · walk_at "rd"
      refine ⟨u, .ref c.S, t0, .ref c.S, false, rfl, .own _, ht, hk, ?_⟩
      walk_at "rd"
      exact q
    · obtain ⟨dx, dy, n, b, t, z, sp, n2, b2, t2, z2, sp2, p, p2, h1, h2, g1, g2, o1, o2, rfl⟩ := h
      walk_at "rd"
      refine ⟨.ref d, .ref c.S, .ref c.S, .ref c.S, true, rfl, .own _, .base (.ins h2 cf.cl cf.ha cf.hn cf.htk cf.hm), kit_self, ?_⟩
      walk_at "rd"
      refine r_fldE h1 cf.cl cf.n1 rfl ?_
      walk_at "rd"
      refine r_fldE h2 cf.cl cf.n1 rfl ?_
      walk_at "rd"
      refine r_iteD (fun e => ?_) (fun e => ?_)
      case refine_2 =>
        refine (congrArg (fun z => Q (.bl z) _) (decide_eq_false ?_)).mp q
        intro e2
        apply e
        injection e2
        simp [*]
      have ee : n = n2 := by injection e
      subst ee
      walk_at "rd"
      refine r_fldE h1 cf.cl tZ rfl ?_
      walk_at "rd"
      refine r_fldE h2 cf.cl tZ rfl ?_
      walk_at "rd"
      refine r_iteD (fun e => ?_) (fun e => ?_)
      case refine_2 =>
        refine (congrArg (fun z => Q (.bl z) _) (decide_eq_false ?_)).mp q
        intro e2
        apply e
        injection e2
        simp [*]
      have ee : z = z2 := by injection e
      subst ee
      walk_at "rd"
      refine r_fldE h1 cf.cl tX rfl ?_
      walk_at "rd"
      refine r_fldE h2 cf.cl tX rfl ?_
      walk_at "rd"
      refine ⟨p, p2, _, _, rfl, rfl, g1, g2, ?_⟩
      walk_at "rd"
      refine r_iteD (fun e => ?_) (fun e => ?_)
      case refine_2 =>
        refine (congrArg (fun z => Q (.bl z) _) (decide_eq_false ?_)).mp q
        intro e2
        apply e
        injection e2
        simp [*]
      have ee : sp = sp2 := (pcs_iff o1 o2).mp e
      subst ee
      walk_at "rd"
      refine r_fldE h1 cf.cl cf.n2 rfl ?_
      walk_at "rd"
      refine r_fldE h2 cf.cl cf.n2 rfl ?_
      walk_at "rd"
      refine r_iteD (fun e => ?_) (fun e => ?_)
      case refine_2 =>
        refine (congrArg (fun z => Q (.bl z) _) (decide_eq_false ?_)).mp q
        intro e2
        apply e
        injection e2
        simp [*]
      have ee : b = b2 := by injection e
      subst ee
      walk_at "rd"
      refine r_fldE h1 cf.cl cf.n3 rfl ?_
      walk_at "rd"
      refine r_fldE h2 cf.cl cf.n3 rfl ?_
      walk_at "rd"
      refine (congrArg (fun z => Q (.bl z) _) ?_).mp q
      simp
end
end Th
namespace Th
open PySem PySem.Spec PyProof.Rows L2
local macro_rules | `(tactic| walk_at "lk") => `(tactic| first
  | assumption
  | exact upd_same
  | (refine upd_old (by assumption) ?_; walk_at "lk")
  | (refine upd_diff (by assumption) ?_; walk_at "lk")
  | (refine upd_diff (Ne.symm (by assumption)) ?_; walk_at "lk"))
local macro_rules | `(tactic| walk_at "cnd") => `(tactic| first
  | omega
  | (refine ⟨by omega, by omega⟩)
  | (refine ⟨by omega, by omega, by omega⟩)
  | (refine .inl ⟨by omega, by omega⟩)
  | (refine .inr ⟨by omega, by omega⟩)
  | (exact (show CPow _ _ from ⟨by decide, by decide, by omega⟩))
  | decide +kernel
  | (unfold CMulW; decide +kernel)
  | (exact wide_div (b := 64) (by omega) (by omega) (by decide) (by decide)))
local macro_rules | `(tactic| walk_at "rd1") => `(tactic| first
  | (with_reducible refine r_seq ?_)
  | (with_reducible refine r_asg ?_)
  | (with_reducible refine r_ret ?_)
  | (with_reducible refine r_if ?_)
  | (with_reducible refine r_gname ?_)
  | ((with_reducible refine' r_var ?hv ?_); (case hv => exact rfl))
  | (with_reducible refine r_c ?_)
  | (with_reducible refine r_op ?_)
  | (with_reducible refine r_I0 ?_)
  | ((with_reducible refine r_I ?hc ?_); (case hc => walk_at "cnd"))
  | (with_reducible refine r_test ?_)
  | (with_reducible refine r_tB ?_)
  | (with_reducible refine r_bl ?_)
  | (with_reducible refine r_not ?_)
  | (with_reducible refine r_and ?_)
  | (with_reducible refine r_or ?_)
  | (with_reducible refine r_ifE ?_)
  | (with_reducible refine r_notV ?_)
  | (with_reducible refine r_andV ?_)
  | (with_reducible refine r_orV ?_)
  | (with_reducible refine r_chain ?_)
  | (with_reducible refine r_cb ?_)
  | (with_reducible refine r_call ?_)
  | (with_reducible refine r_callN ?_)
  | (with_reducible refine r_nil ?_)
  | (with_reducible refine r_cons ?_)
  | ((with_reducible refine r_lst ?_))
  | ((with_reducible refine r_tup ?_))
  | ((with_reducible refine r_new ?_ ?_); (exact Nat.le_of_ble_eq_true rfl); (intro p hp))
  | (with_reducible refine r_rInt1 ?_)
  | (with_reducible refine r_rIntB ?_)
  | (with_reducible refine r_rAbs ?_)
  | (with_reducible refine r_rMin2 ?_)
  | (with_reducible refine r_rMax2 ?_)
  | ((with_reducible refine r_rLenZ ?hz ?_); (case hz => first | assumption | exact Nat.le_of_ble_eq_true rfl | (refine Nat.le_trans ?_ (by decide : 100000 ≤ sizeLine); omega)))
  | ((with_reducible refine r_addZ ?hz ?_); (case hz => (refine Nat.le_trans ?_ (by decide : 100000 ≤ sizeLine); first | omega | (simp only [Str.length] at *; simp; omega))))
  | ((with_reducible refine r_mulZ ?hz ?h0 ?h1 ?_); (case hz => first | omega | exact Nat.le_of_ble_eq_true rfl); (case h0 => omega); (case h1 => omega))
  | ((with_reducible refine' r_rLenQ ?h1 ?_); (case h1 => first | (exact .inl (by assumption)) | (exact .inr (by assumption)) | (exact .inl (SqL.of (by walk_at "lk"))) | (exact .inr (SqT.of (by walk_at "lk")))))
  | ((with_reducible refine r_eq ?hs ?_); (case hs => exact rfl))
  | ((with_reducible refine r_ne ?hs ?_); (case hs => exact rfl))
  | (with_reducible refine r_inC ?_)
  | ((with_reducible refine' r_cat ?h1 ?h2 ?h3 ?_); (case h1 => walk_at "lk"); (case h2 => walk_at "lk"); (case h3 => exact Nat.le_of_ble_eq_true rfl); (intro p hp))
  | ((with_reducible refine' r_rep ?h1 ?h2 ?h3 ?h4 ?_); (case h1 => walk_at "lk"); (case h2 => omega); (case h3 => omega); (case h4 => exact Nat.le_of_ble_eq_true rfl); (intro p hp))
  | ((with_reducible refine' r_append ?h1 ?h2 ?_); (case h1 => walk_at "lk"); (case h2 => first | exact (show _ + 1 ≤ sizeLine from Nat.le_of_ble_eq_true rfl) | exact Nat.lt_of_le_of_lt (by omega : _ ≤ 100000) (by decide)))
  | (with_reducible refine r_bm ?_)
  | ((with_reducible refine' r_tyL ?h1 ?_); (case h1 => walk_at "lk"))
  | ((with_reducible refine' r_ixL ?h1 ?h2 ?_); (case h1 => first | assumption | exact SqL.of (by walk_at "lk")); (case h2 => exact rfl))
  | ((with_reducible refine' r_ixT ?h1 ?h2 ?_); (case h1 => first | assumption | exact SqT.of (by walk_at "lk")); (case h2 => exact rfl))
  | (with_reducible refine r_gsub ?_)
  | ((with_reducible refine' r_setL ?h1 ?h2 ?_); (case h1 => walk_at "lk"); (case h2 => exact rfl))
  | (with_reducible refine r_un ?_)
  | (with_reducible refine r_neg ?_)
  | (with_reducible refine r_iteT ?_)
  | (with_reducible refine r_iteNT ?_)
  | (with_reducible refine r_iteNF ?_)
  | (with_reducible refine r_iteF ?_)
  | (with_reducible refine r_next ?_)
  | (with_reducible refine r_drop ?_)
  | (with_reducible refine r_cont ?_)
  | (with_reducible refine r_brk ?_))
local macro_rules | `(tactic| walk_at "ty") => `(tactic| first
  | assumption
  | exact .base (.int _)
  | exact .base (.str _)
  | exact .base (.bl _)
  | exact .base .non
  | exact .byt _
  | exact .base (.lst (by walk_at "lk"))
  | exact .base (.tup (by walk_at "lk")))
local macro_rules | `(tactic| walk_at "rd2") => `(tactic| first
  | walk_at "rd1"
  | ((with_reducible refine' r_isi true ?ht ?hk ?_); (case ht => walk_at "ty"); (case hk => first | assumption | decide +kernel))
  | ((with_reducible refine' r_isi false ?ht ?hk ?_); (case ht => walk_at "ty"); (case hk => first | assumption | decide +kernel))
  | ((with_reducible refine' r_isiT2 true true ?hT ?ht ?hk ?hk2 ?_); (case hT => walk_at "lk"); (case ht => walk_at "ty"); (case hk => decide +kernel); (case hk2 => decide +kernel))
  | ((with_reducible refine' r_isiT2 true false ?hT ?ht ?hk ?hk2 ?_); (case hT => walk_at "lk"); (case ht => walk_at "ty"); (case hk => decide +kernel); (case hk2 => decide +kernel))
  | ((with_reducible refine' r_isiT2 false true ?hT ?ht ?hk ?hk2 ?_); (case hT => walk_at "lk"); (case ht => walk_at "ty"); (case hk => decide +kernel); (case hk2 => decide +kernel))
  | ((with_reducible refine' r_isiT2 false false ?hT ?ht ?hk ?hk2 ?_); (case hT => walk_at "lk"); (case ht => walk_at "ty"); (case hk => decide +kernel); (case hk2 => decide +kernel))
  | (with_reducible refine r_iteNT ?_)
  | ((show (if (!true) = true then _ else _)); refine r_iteNT ?_)
  | (with_reducible refine r_r1 ?_)
  | (with_reducible refine r_maks ?_)
  | (with_reducible refine r_sfld ?_)
  | ((with_reducible refine' r_sfldE ?h1 ?h2 ?h3 ?h4 ?_); (case h1 => walk_at "lk"); (case h2 => assumption); (case h3 => assumption); (case h4 => exact (show _ + 1 ≤ 1000 from Nat.le_of_ble_eq_true rfl)))
  | (with_reducible refine r_fld ?_)
  | (with_reducible refine r_join ?_)
  | (with_reducible refine r_jcons ?_)
  | (with_reducible refine r_jnil ?_)
  | ((with_reducible refine r_rLenY ?hz ?_); (case hz => first | assumption | (refine Nat.le_trans ?_ (by decide : 100000 ≤ sizeLine); omega)))
  | (with_reducible refine r_par ?_)
  | (with_reducible refine r_pair ?_)
  | (with_reducible refine r_par3 ?_)
  | (with_reducible refine r_trip ?_)
  | ((with_reducible refine' r_gtup ?h1 ?h2 ?_); (case h1 => first | assumption | exact SqT.of (by walk_at "lk")); (case h2 => exact rfl))
  | (with_reducible refine r_gcons ?_)
  | (with_reducible refine r_gnil ?_)
  | ((with_reducible refine' r_slL ?h1 ?_); (case h1 => first | assumption | exact SqL.of (by walk_at "lk")); (intro p hp))
  | (with_reducible refine r_iTup ?_)
  | ((with_reducible refine' r_tupE ?h1 ?_); (case h1 => first | assumption | exact SqT.of (by walk_at "lk")))
  | (with_reducible refine r_m1 ?_)
  | (with_reducible refine r_isZ ?_)
  | (with_reducible refine r_sl ?_)
  | (with_reducible refine r_noPart ?_)
  | (with_reducible refine r_part ?_)
  | (with_reducible refine r_partE ?_)
  | ((with_reducible refine r_slS ?hz ?_); (case hz => first | assumption | (refine Nat.le_trans ?_ (by decide : 100000 ≤ sizeLine); omega)))
  | ((with_reducible refine' r_inT ?h1 ?h2 ?h3 ?_); (case h1 => first | assumption | (exact SqT.of (by walk_at "lk"))); (case h2 => exact rfl); (case h3 => exact rfl))
  | ((with_reducible refine' r_inL ?h1 ?h2 ?h3 ?_); (case h1 => first | assumption | (exact SqL.of (by walk_at "lk"))); (case h2 => exact rfl); (case h3 => exact rfl))
  | (with_reducible refine r_lc ?_)
  | (with_reducible refine r_for ?_)
  | (with_reducible refine r_iStr ?_)
  | (with_reducible refine r_strE ?_)
  | (with_reducible refine r_iList ?_)
  | ((with_reducible refine' r_listE ?h1 ?_); (case h1 => first | assumption | exact SqL.of (by walk_at "lk")))
  | (with_reducible refine r_iRng1 ?_)
  | ((with_reducible refine' r_rngE ?h0 ?h1 ?_); (case h0 => first | omega | (split <;> omega)); (case h1 => first | omega | (split <;> omega))))
local macro_rules | `(tactic| walk_at "rd") => `(tactic| (repeat walk_at "rd2"))
local macro_rules | `(tactic| walk_at "st") => `(tactic| (repeat (first
  | (with_reducible refine r_gname ?_)
  | (with_reducible refine r_next ?_)
  | (with_reducible refine r_seq ?_)
  | (with_reducible refine r_asg ?_)
  | (with_reducible refine r_ret ?_)
  | (with_reducible refine r_for ?_)
  | (with_reducible refine r_iRng1 ?_)
  | (with_reducible refine r_iList ?_)
  | (with_reducible refine r_cons ?_)
  | (with_reducible refine r_par ?_)
  | (with_reducible refine r_par3 ?_))))
/-! ### a member near to another -/
def rListL (K : PySem.W.Frag) : List V → Hp → VK → Prop := fun xs H Q => ∃ p ys, xs = [.ref p] ∧ (SqL K H p ys ∨ SqT K H p ys) ∧ ∀ l, H l = none → Q (.ref l) (upd H l (.lst ys))
theorem call_listK {X : Cx} (K : PySem.W.Frag) (h : X.K = K := by rfl) : CallR X (.type "list") (rListL K) := h ▸ call_list_of
theorem r_listL {K : PySem.W.Frag} {H : Hp} {Q : VK} {p : Addr} {ys : List V} (h : H p = some (.lst ys)) (k : ∀ l, H l = none → Q (.ref l) (upd H l (.lst ys))) : rListL K [.ref p] H Q := ⟨p, ys, rfl, .inl (SqL.of h), k⟩
theorem V.int_ne {i j : Int} (h : i ≠ j) : V.int i ≠ V.int j := fun e => h (by injection e)
theorem spansOk_take {z : Int} : ∀ (sp : List (Int × Int)) (e : Int) (k : Nat), spansOk z e sp → spansOk z e (sp.take k)
  | _, _, 0, _ => by rw [List.take_zero]; trivial
  | [], _, _ + 1, _ => trivial
  | (b, n) :: r, e, k + 1, h => ⟨h.1, h.2.1, h.2.2.1, spansOk_take r _ k h.2.2.2⟩
theorem spansOk_more {z z' : Int} (hz : z ≤ z') : ∀ (sp : List (Int × Int)) (e : Int), spansOk z e sp → spansOk z' e sp
  | [], _, _ => trivial
  | (b, n) :: r, e, h => ⟨h.1, h.2.1, Int.le_trans h.2.2.1 hz, spansOk_more hz r _ h.2.2.2⟩
theorem cutV_last (xs : List V) : cutV xs none (some (-1)) = xs.take (xs.length - 1) := by
  unfold cutV HT.sIx
  simp only [List.drop_zero]
  congr 1
  simp
  omega
theorem Paired.takeP {α β : Type} {R : α → β → Prop} : ∀ {xs : List α} {ys : List β} (k : Nat), Paired R xs ys → Paired R (xs.take k) (ys.take k)
  | _, _, 0, _ => by rw [List.take_zero, List.take_zero]; exact .nil
  | _, _, _ + 1, .nil => by simp; exact .nil
  | _, _, k + 1, .cons r t => .cons r (Paired.takeP k t)
theorem Src.set {H : Hp} {a D : Addr} {o : HO} (hn : D ≠ a) (h : Src H a) : Src (upd H D o) a := by
  obtain ⟨l, m, c, h1, h2⟩ := h
  exact ⟨l, m, c, by rw [upd_ne hn.symm]; exact h1, h2⟩
theorem But.lay {H H1 : Hp} {a p : Addr} {o : HO} (hp : H1 p = none) (b : But a H H1) : But a H (upd H1 p o) := b.trans (Same.but (same_new hp))
theorem But.set {H H1 : Hp} {a D : Addr} {o : HO} (hD : H D = none) (b : But a H H1) : But a H (upd H1 D o) := fun c u nc e => by
  rw [upd_ne (ne_of_none e hD)]
  exact b c u nc e
theorem pp_0 {a D : Addr} {H : Hp} {as : List Addr} {sp : List (Int × List Int)} (h : Paired (fun q (s : Int × List Int) => (q ≠ a ∧ q ≠ D) ∧ ∃ e, (e ≠ a ∧ e ≠ D) ∧ H q = some (.tup [.int s.1, .ref e]) ∧ H e = some (.lst (s.2.map V.int))) as sp) :
    Paired (fun q (s : Int × List Int) => q ≠ a ∧ ∃ e, e ≠ a ∧ H q = some (.tup [.int s.1, .ref e]) ∧ H e = some (.lst (s.2.map V.int))) as sp := Paired.mapP h fun q s ⟨⟨n1, _⟩, e, ⟨n2, _⟩, g1, g2⟩ => ⟨n1, e, n2, g1, g2⟩
theorem pp_set {a D : Addr} {o : HO} {H : Hp} {as : List Addr} {sp : List (Int × List Int)} (h : Paired (fun q (s : Int × List Int) => (q ≠ a ∧ q ≠ D) ∧ ∃ e, (e ≠ a ∧ e ≠ D) ∧ H q = some (.tup [.int s.1, .ref e]) ∧ H e = some (.lst (s.2.map V.int))) as sp) :
    Paired (fun q (s : Int × List Int) => q ≠ a ∧ ∃ e, e ≠ a ∧ upd H D o q = some (.tup [.int s.1, .ref e]) ∧ upd H D o e = some (.lst (s.2.map V.int))) as sp := Paired.mapP h fun q s ⟨⟨n1, m1⟩, e, ⟨n2, m2⟩, g1, g2⟩ => ⟨n1, e, n2, by rw [upd_ne m1]; exact g1, by rw [upd_ne m2]; exact g2⟩
theorem pp_lay {a D L : Addr} {u : HO} {H : Hp} {as : List Addr} {sp : List (Int × List Int)} (hL : H L = none) (h : Paired (fun q (s : Int × List Int) => (q ≠ a ∧ q ≠ D) ∧ ∃ e, (e ≠ a ∧ e ≠ D) ∧ H q = some (.tup [.int s.1, .ref e]) ∧ H e = some (.lst (s.2.map V.int))) as sp) :
    Paired (fun q (s : Int × List Int) => (q ≠ a ∧ q ≠ D) ∧ ∃ e, (e ≠ a ∧ e ≠ D) ∧ upd H L u q = some (.tup [.int s.1, .ref e]) ∧ upd H L u e = some (.lst (s.2.map V.int))) as sp := Paired.mapP h fun q s ⟨m1, e, m2, g1, g2⟩ => ⟨m1, e, m2, upd_old hL g1, upd_old hL g2⟩
def spNear : Sp := fun vs H Q _ => ∃ (a p : Addr) (m : Mem), vs = [.ref a, .ref p] ∧ Src H a ∧ m.AtB a H p ∧ m.Ok ∧ m.Small ∧ ∀ q (m' : Mem) H', m'.AtB a H' q → m'.Ok → Src H' a → But a H H' → Q (.ref q) H'
theorem sp_near {a p : Addr} {m : Mem} {H : Hp} {Q : VK} {E : XK} (h : Src H a) (h1 : m.AtB a H p) (h2 : m.Ok) (h3 : m.Small) (k : ∀ q (m' : Mem) H', m'.AtB a H' q → m'.Ok → Src H' a → But a H H' → Q (.ref q) H') : spNear ([.ref a, .ref p] ++ []) H Q E := ⟨a, p, m, rfl, h, h1, h2, h3, k⟩
local macro_rules | `(tactic| walk_at "fs") => `(tactic| repeat (first | assumption | (refine Src.new (by assumption) ?_) | (refine Src.set (by assumption) ?_)))
local macro_rules | `(tactic| walk_at "fb") => `(tactic| repeat (first | assumption | (refine But.lay (by assumption) ?_) | (refine But.set (by assumption) ?_)))
local macro_rules | `(tactic| walk_at "nw") => `(tactic| repeat (first
  | walk_at "rd2"
  | (with_reducible refine r_listL (by walk_at "lk") (fun D hD => ?_))
  | (refine r_iteD (fun _ => ?_) (fun h => absurd rfl h))
  | (refine r_iteD (fun h => absurd h (V.int_ne (by omega))) (fun _ => ?_))
  | (refine r_iteD (fun h => absurd h (by decide +kernel)) (fun _ => ?_))
  | (refine r_iteB (fun _ => ?_) (fun h => absurd h (by decide +kernel)))
  | (refine r_iteB (fun h => absurd h (by decide +kernel)) (fun _ => ?_))))
section
variable {P : Program} {w : World} {K : PySem.W.Frag} {mg : Str → Option Value} {base : Heap}
theorem ok_near {f : Addr} {fd : FuncData} {k : Nat} (F : Fun K "_law_near" "_law_near" s__law_near f fd) (m1 : mg "int" = none) (m2 : mg "list" = none) (c_draw : CalT P w K mg base 2 "_law_draw" spDraw) (c_aname : CalT P w K mg base 4 "_law_any_name" spAName) :
    FnOk P w K mg base CX0 (k + 5) f fd ["_law_source_here", "_law_one"] spNear := by
  refine F.ok sc__law_near (fun vs H Q E h => ?_) (fun cdv A outer s H vs Q E hr h => ?_)
  · obtain ⟨a, p, m, rfl, _⟩ := h
    rfl
  · obtain ⟨a, p, m, rfl, hs, hat, hok, hsm, q⟩ := h
    have hu := hu_of hr
    have hu64 := hr.units
    have nd := sc__law_near.nd
    refine ⟨_, (pss_cons (ps_par (i := 2) (j := 3) rfl nd rfl rfl (by decide) rfl rfl (pa_cons (pe_callTy (call_listK K) (by rfl) (by assumption) (by decide +kernel) (pa_cons (pv 1) pa_nil)) (pa_cons (pe_cc c_draw hr (by omega) (by rfl) (pa_cons (pv 0) (pa_cons pe_int pa_nil))) pa_nil)) (by rfl))
      (pss_cons (ps_if (pt_cmpR op_eq (pv 3) pe_int (nomark _))
        (pss_one (ps_asg (pe_cc c_aname hr (by omega) (by rfl) (pa_cons (pv 0) pa_nil)) (pg_sub (pv 2) pe_int set_list)))
        pss_nil)
      (pss_cons (ps_if (pt_cmpR op_eq (pv 3) pe_int (nomark _))
        (pss_one (ps_asg (pe_op op_mod (pe_callTy call_rInt1 (by rfl) (by assumption) (by decide +kernel) (pa_cons (pe_op op_add (pe_ix (ix_listK K) (pv 1) pe_int (fun _ _ => rfl)) pe_int) pa_nil)) pe_int) (pg_sub (pv 2) pe_int set_list)))
        pss_nil)
      (pss_cons (ps_if (pt_cmpR op_eq (pv 3) pe_int (nomark _))
        (pss_one (ps_asg (pe_op op_mod (pe_callTy call_rInt1 (by rfl) (by assumption) (by decide +kernel) (pa_cons (pe_op op_add (pe_ix (ix_listK K) (pv 1) pe_int (fun _ _ => rfl)) pe_int) pa_nil)) pe_int) (pg_sub (pv 2) pe_int set_list)))
        pss_nil)
      (pss_cons (ps_if (PW.pt (pw_and (pt_cmpR op_eq (pv 3) pe_int (nomark _)) (pw_and1 (pt_cmpR (op_inK K) (pe_ix (ix_listK K) (pv 1) pe_int (fun _ _ => rfl)) (pe_tup (pa_cons pe_str (pa_cons pe_str pa_nil))) (by rfl)))))
        (pss_one (ps_asg (pe_ix (ix_listK K) (pe_lst (pa_cons pe_str (pa_cons pe_str pa_nil))) (pe_callTy call_rIntB (by rfl) (by assumption) (by decide +kernel) (pa_cons (pe_cmpR op_eq (pe_ix (ix_listK K) (pv 1) pe_int (fun _ _ => rfl)) pe_str (nomark _)) pa_nil)) (fun _ _ => rfl)) (pg_sub (pv 2) pe_int set_list)))
        pss_nil)
      (pss_cons (ps_if (PW.pt (pw_and (pt_cmpR op_eq (pv 3) pe_int (nomark _)) (pw_and1 (pt_cmpR (op_inK K) (pe_ix (ix_listK K) (pv 1) pe_int (fun _ _ => rfl)) (pe_tup (pa_cons pe_str (pa_cons pe_str pa_nil))) (by rfl)))))
        (pss_one (ps_asg (pe_cc c_aname hr (by omega) (by rfl) (pa_cons (pv 0) pa_nil)) (pg_sub (pv 2) pe_int set_list)))
        pss_nil)
      (pss_cons (ps_if (PW.pt (pw_and (pt_cmpR op_eq (pv 3) pe_int (nomark _)) (pw_and1 (pt_cmpR op_eq (pe_ix (ix_listK K) (pv 1) pe_int (fun _ _ => rfl)) pe_str (nomark _)))))
        (pss_one (ps_asg (pe_op op_cat (pe_ix (ix_listK K) (pv 1) pe_int (fun _ _ => rfl)) (pe_lst (pa_cons pe_int pa_nil))) (pg_sub (pv 2) pe_int set_list)))
        pss_nil)
      (pss_cons (ps_if (PW.pt (pw_and (pt_cmpR op_eq (pv 3) pe_int (nomark _)) (pw_and (pt_cmpR op_eq (pe_ix (ix_listK K) (pv 1) pe_int (fun _ _ => rfl)) pe_str (nomark _)) (pw_and1 (pt_cmpR op_lt (pe_ix (ix_listK K) (pv 1) pe_int (fun _ _ => rfl)) pe_int (nomark _))))))
        (pss_one (ps_asg (pe_op op_add (pe_ix (ix_listK K) (pv 1) pe_int (fun _ _ => rfl)) pe_int) (pg_sub (pv 2) pe_int set_list)))
        pss_nil)
      (pss_cons (ps_if (PW.pt (pw_and (pt_cmpR op_eq (pv 3) pe_int (nomark _)) (pw_and1 (pt_cmpR op_eq (pe_ix (ix_listK K) (pv 1) pe_int (fun _ _ => rfl)) pe_str (nomark _)))))
        (pss_one (ps_asg (pe_slice (sl_listK K) (pe_ix (ix_listK K) (pv 1) pe_int (fun _ _ => rfl)) po_none (po_some (pe_un un_neg pe_int))) (pg_sub (pv 2) pe_int set_list)))
        pss_nil)
      (pss_one (ps_ret (pv 2)))))))))))), ?_⟩
    cases m with
    | dir n b t =>
      obtain ⟨np, hp⟩ := inv_dir hat
      obtain ⟨hn, b0, b1, t0, t1⟩ := hok
      walk_at "nw"
      rename_i D hD
      have npD : p ≠ D := ne_of_none hp hD
      have hsD := hs.new (o := .lst [.str "directory", .str n, .int b, .int t]) hD
      refine sp_draw hsD (by decide) (by decide) (fun e H1 d0 d1 hs1 hb1 => ?_)
      have nD := hs.ne hD
      have gD := hb1 _ _ nD upd_same
      have hp1 := hb1 _ _ np (upd_old hD hp)
      have bb := (Same.but (a := a) (same_new (o := .lst [.str "directory", .str n, .int b, .int t]) hD)).trans hb1
      obtain rfl | rfl | rfl | rfl | rfl | rfl | rfl | rfl : e = 0 ∨ e = 1 ∨ e = 2 ∨ e = 3 ∨ e = 4 ∨ e = 5 ∨ e = 6 ∨ e = 7 := by omega
      · walk_at "nw"
        exact q D (.dir n b t) _ (atB_dir nD (by walk_at "lk")) ⟨hn, b0, b1, t0, t1⟩ (by walk_at "fs") (by walk_at "fb")
      · walk_at "nw"
        refine sp_aname (by walk_at "fs") (fun n2 H2 hn2 hs2 hb2 => ?_)
        have gD2 : H2 D = some (.lst [.str "directory", .str n, .int b, .int t]) := hb2 _ _ nD (by walk_at "lk")
        have hp2 : H2 p = some (.lst [.str "directory", .str n, .int b, .int t]) := hb2 _ _ np (by walk_at "lk")
        have bb2 : But a H H2 := But.trans (by walk_at "fb") hb2
        walk_at "nw"
        exact q D (.dir n2 b t) _ (atB_dir nD (by walk_at "lk")) ⟨hn2, b0, b1, t0, t1⟩ (by walk_at "fs") (by walk_at "fb")
      · walk_at "nw"
        exact q D (.dir n ((b + 1) % 4096) t) _ (atB_dir nD (by walk_at "lk")) ⟨hn, (by omega), (by omega), t0, t1⟩ (by walk_at "fs") (by walk_at "fb")
      · walk_at "nw"
        exact q D (.dir n b ((t + 1) % 8589934592)) _ (atB_dir nD (by walk_at "lk")) ⟨hn, b0, b1, (by omega), (by omega)⟩ (by walk_at "fs") (by walk_at "fb")
      · walk_at "nw"
        exact q D (.dir n b t) _ (atB_dir nD (by walk_at "lk")) ⟨hn, b0, b1, t0, t1⟩ (by walk_at "fs") (by walk_at "fb")
      · walk_at "nw"
        exact q D (.dir n b t) _ (atB_dir nD (by walk_at "lk")) ⟨hn, b0, b1, t0, t1⟩ (by walk_at "fs") (by walk_at "fb")
      · walk_at "nw"
        exact q D (.dir n b t) _ (atB_dir nD (by walk_at "lk")) ⟨hn, b0, b1, t0, t1⟩ (by walk_at "fs") (by walk_at "fb")
      · walk_at "nw"
        exact q D (.dir n b t) _ (atB_dir nD (by walk_at "lk")) ⟨hn, b0, b1, t0, t1⟩ (by walk_at "fs") (by walk_at "fb")
    | sym n b t g =>
      obtain ⟨np, hp⟩ := inv_sym hat
      obtain ⟨⟨hn, b0, b1, t0, t1⟩, hg⟩ := hok
      walk_at "nw"
      rename_i D hD
      have npD : p ≠ D := ne_of_none hp hD
      have hsD := hs.new (o := .lst [.str "symlink", .str n, .int b, .int t, .str g]) hD
      refine sp_draw hsD (by decide) (by decide) (fun e H1 d0 d1 hs1 hb1 => ?_)
      have nD := hs.ne hD
      have gD := hb1 _ _ nD upd_same
      have hp1 := hb1 _ _ np (upd_old hD hp)
      have bb := (Same.but (a := a) (same_new (o := .lst [.str "symlink", .str n, .int b, .int t, .str g]) hD)).trans hb1
      obtain rfl | rfl | rfl | rfl | rfl | rfl | rfl | rfl : e = 0 ∨ e = 1 ∨ e = 2 ∨ e = 3 ∨ e = 4 ∨ e = 5 ∨ e = 6 ∨ e = 7 := by omega
      · walk_at "nw"
        exact q D (.sym n b t g) _ (atB_sym nD (by walk_at "lk")) ⟨⟨hn, b0, b1, t0, t1⟩, hg⟩ (by walk_at "fs") (by walk_at "fb")
      · walk_at "nw"
        refine sp_aname (by walk_at "fs") (fun n2 H2 hn2 hs2 hb2 => ?_)
        have gD2 : H2 D = some (.lst [.str "symlink", .str n, .int b, .int t, .str g]) := hb2 _ _ nD (by walk_at "lk")
        have hp2 : H2 p = some (.lst [.str "symlink", .str n, .int b, .int t, .str g]) := hb2 _ _ np (by walk_at "lk")
        have bb2 : But a H H2 := But.trans (by walk_at "fb") hb2
        walk_at "nw"
        exact q D (.sym n2 b t g) _ (atB_sym nD (by walk_at "lk")) ⟨⟨hn2, b0, b1, t0, t1⟩, hg⟩ (by walk_at "fs") (by walk_at "fb")
      · walk_at "nw"
        exact q D (.sym n ((b + 1) % 4096) t g) _ (atB_sym nD (by walk_at "lk")) ⟨⟨hn, (by omega), (by omega), t0, t1⟩, hg⟩ (by walk_at "fs") (by walk_at "fb")
      · walk_at "nw"
        exact q D (.sym n b ((t + 1) % 8589934592) g) _ (atB_sym nD (by walk_at "lk")) ⟨⟨hn, b0, b1, (by omega), (by omega)⟩, hg⟩ (by walk_at "fs") (by walk_at "fb")
      · walk_at "nw"
        exact q D (.lnk n b t g) _ (atB_lnk nD (by walk_at "lk")) ⟨⟨hn, b0, b1, t0, t1⟩, hg⟩ (by walk_at "fs") (by walk_at "fb")
      · walk_at "nw"
        refine sp_aname (by walk_at "fs") (fun g2 H2 hg2 hs2 hb2 => ?_)
        have gD2 : H2 D = some (.lst [.str "symlink", .str n, .int b, .int t, .str g]) := hb2 _ _ nD (by walk_at "lk")
        have hp2 : H2 p = some (.lst [.str "symlink", .str n, .int b, .int t, .str g]) := hb2 _ _ np (by walk_at "lk")
        have bb2 : But a H H2 := But.trans (by walk_at "fb") hb2
        walk_at "nw"
        exact q D (.sym n b t g2) _ (atB_sym nD (by walk_at "lk")) ⟨⟨hn, b0, b1, t0, t1⟩, hg2⟩ (by walk_at "fs") (by walk_at "fb")
      · walk_at "nw"
        exact q D (.sym n b t g) _ (atB_sym nD (by walk_at "lk")) ⟨⟨hn, b0, b1, t0, t1⟩, hg⟩ (by walk_at "fs") (by walk_at "fb")
      · walk_at "nw"
        exact q D (.sym n b t g) _ (atB_sym nD (by walk_at "lk")) ⟨⟨hn, b0, b1, t0, t1⟩, hg⟩ (by walk_at "fs") (by walk_at "fb")
    | lnk n b t g =>
      obtain ⟨np, hp⟩ := inv_lnk hat
      obtain ⟨⟨hn, b0, b1, t0, t1⟩, hg⟩ := hok
      walk_at "nw"
      rename_i D hD
      have npD : p ≠ D := ne_of_none hp hD
      have hsD := hs.new (o := .lst [.str "link", .str n, .int b, .int t, .str g]) hD
      refine sp_draw hsD (by decide) (by decide) (fun e H1 d0 d1 hs1 hb1 => ?_)
      have nD := hs.ne hD
      have gD := hb1 _ _ nD upd_same
      have hp1 := hb1 _ _ np (upd_old hD hp)
      have bb := (Same.but (a := a) (same_new (o := .lst [.str "link", .str n, .int b, .int t, .str g]) hD)).trans hb1
      obtain rfl | rfl | rfl | rfl | rfl | rfl | rfl | rfl : e = 0 ∨ e = 1 ∨ e = 2 ∨ e = 3 ∨ e = 4 ∨ e = 5 ∨ e = 6 ∨ e = 7 := by omega
      · walk_at "nw"
        exact q D (.lnk n b t g) _ (atB_lnk nD (by walk_at "lk")) ⟨⟨hn, b0, b1, t0, t1⟩, hg⟩ (by walk_at "fs") (by walk_at "fb")
      · walk_at "nw"
        refine sp_aname (by walk_at "fs") (fun n2 H2 hn2 hs2 hb2 => ?_)
        have gD2 : H2 D = some (.lst [.str "link", .str n, .int b, .int t, .str g]) := hb2 _ _ nD (by walk_at "lk")
        have hp2 : H2 p = some (.lst [.str "link", .str n, .int b, .int t, .str g]) := hb2 _ _ np (by walk_at "lk")
        have bb2 : But a H H2 := But.trans (by walk_at "fb") hb2
        walk_at "nw"
        exact q D (.lnk n2 b t g) _ (atB_lnk nD (by walk_at "lk")) ⟨⟨hn2, b0, b1, t0, t1⟩, hg⟩ (by walk_at "fs") (by walk_at "fb")
      · walk_at "nw"
        exact q D (.lnk n ((b + 1) % 4096) t g) _ (atB_lnk nD (by walk_at "lk")) ⟨⟨hn, (by omega), (by omega), t0, t1⟩, hg⟩ (by walk_at "fs") (by walk_at "fb")
      · walk_at "nw"
        exact q D (.lnk n b ((t + 1) % 8589934592) g) _ (atB_lnk nD (by walk_at "lk")) ⟨⟨hn, b0, b1, (by omega), (by omega)⟩, hg⟩ (by walk_at "fs") (by walk_at "fb")
      · walk_at "nw"
        exact q D (.sym n b t g) _ (atB_sym nD (by walk_at "lk")) ⟨⟨hn, b0, b1, t0, t1⟩, hg⟩ (by walk_at "fs") (by walk_at "fb")
      · walk_at "nw"
        refine sp_aname (by walk_at "fs") (fun g2 H2 hg2 hs2 hb2 => ?_)
        have gD2 : H2 D = some (.lst [.str "link", .str n, .int b, .int t, .str g]) := hb2 _ _ nD (by walk_at "lk")
        have hp2 : H2 p = some (.lst [.str "link", .str n, .int b, .int t, .str g]) := hb2 _ _ np (by walk_at "lk")
        have bb2 : But a H H2 := But.trans (by walk_at "fb") hb2
        walk_at "nw"
        exact q D (.lnk n b t g2) _ (atB_lnk nD (by walk_at "lk")) ⟨⟨hn, b0, b1, t0, t1⟩, hg2⟩ (by walk_at "fs") (by walk_at "fb")
      · walk_at "nw"
        exact q D (.lnk n b t g) _ (atB_lnk nD (by walk_at "lk")) ⟨⟨hn, b0, b1, t0, t1⟩, hg⟩ (by walk_at "fs") (by walk_at "fb")
      · walk_at "nw"
        exact q D (.lnk n b t g) _ (atB_lnk nD (by walk_at "lk")) ⟨⟨hn, b0, b1, t0, t1⟩, hg⟩ (by walk_at "fs") (by walk_at "fb")
    | file n b t ns =>
      obtain ⟨d, np, ndd, hp, hd⟩ := inv_file hat
      obtain ⟨⟨hn, b0, b1, t0, t1⟩, hl, hall⟩ := hok
      have hsm : ns.length ≤ 4000 := hsm
      walk_at "nw"
      rename_i D hD
      have npD : p ≠ D := ne_of_none hp hD
      have hsD := hs.new (o := .lst [.str "file", .str n, .int b, .int t, .ref d]) hD
      refine sp_draw hsD (by decide) (by decide) (fun e H1 d0 d1 hs1 hb1 => ?_)
      have nD := hs.ne hD
      have gD := hb1 _ _ nD upd_same
      have hp1 := hb1 _ _ np (upd_old hD hp)
      have bb := (Same.but (a := a) (same_new (o := .lst [.str "file", .str n, .int b, .int t, .ref d]) hD)).trans hb1
      have hd1 := hb1 _ _ ndd (upd_old hD hd)
      have nDd : d ≠ D := ne_of_none hd hD
      obtain rfl | rfl | rfl | rfl | rfl | rfl | rfl | rfl : e = 0 ∨ e = 1 ∨ e = 2 ∨ e = 3 ∨ e = 4 ∨ e = 5 ∨ e = 6 ∨ e = 7 := by omega
      · walk_at "nw"
        exact q D (.file n b t ns) _ (atB_file nD ndd (by walk_at "lk") (by walk_at "lk")) ⟨⟨hn, b0, b1, t0, t1⟩, hl, hall⟩ (by walk_at "fs") (by walk_at "fb")
      · walk_at "nw"
        refine sp_aname (by walk_at "fs") (fun n2 H2 hn2 hs2 hb2 => ?_)
        have gD2 : H2 D = some (.lst [.str "file", .str n, .int b, .int t, .ref d]) := hb2 _ _ nD (by walk_at "lk")
        have hp2 : H2 p = some (.lst [.str "file", .str n, .int b, .int t, .ref d]) := hb2 _ _ np (by walk_at "lk")
        have bb2 : But a H H2 := But.trans (by walk_at "fb") hb2
        have hd2 := hb2 _ _ ndd (by walk_at "lk")
        walk_at "nw"
        exact q D (.file n2 b t ns) _ (atB_file nD ndd (by walk_at "lk") (by walk_at "lk")) ⟨⟨hn2, b0, b1, t0, t1⟩, hl, hall⟩ (by walk_at "fs") (by walk_at "fb")
      · walk_at "nw"
        exact q D (.file n ((b + 1) % 4096) t ns) _ (atB_file nD ndd (by walk_at "lk") (by walk_at "lk")) ⟨⟨hn, (by omega), (by omega), t0, t1⟩, hl, hall⟩ (by walk_at "fs") (by walk_at "fb")
      · walk_at "nw"
        exact q D (.file n b ((t + 1) % 8589934592) ns) _ (atB_file nD ndd (by walk_at "lk") (by walk_at "lk")) ⟨⟨hn, b0, b1, (by omega), (by omega)⟩, hl, hall⟩ (by walk_at "fs") (by walk_at "fb")
      · walk_at "nw"
        exact q D (.file n b t ns) _ (atB_file nD ndd (by walk_at "lk") (by walk_at "lk")) ⟨⟨hn, b0, b1, t0, t1⟩, hl, hall⟩ (by walk_at "fs") (by walk_at "fb")
      · walk_at "nw"
        rename_i _ T1 hT1 _ _ L1 hL1
        refine r_cat (xs := ns.map V.int) (zs := [.int 0]) (by walk_at "lk") (by walk_at "lk") (Nat.le_trans (by rw [List.length_map]; show ns.length + 1 ≤ 100000; omega : _ ≤ 100000) (by decide)) (fun L2 hL2 => ?_)
        walk_at "nw"
        have nL2 : L2 ≠ a := Src.ne (H := upd (upd H1 T1 (HO.tup [V.str "symlink", V.str "link"])) L1 (HO.lst [V.int 0])) (by walk_at "fs") hL2
        have nLD : L2 ≠ D := (ne_of_none (show upd (upd H1 T1 (HO.tup [V.str "symlink", V.str "link"])) L1 (HO.lst [V.int 0]) D = some (.lst [.str "file", .str n, .int b, .int t, .ref d]) from by walk_at "lk") hL2).symm
        exact q D (.file n b t (ns ++ [0])) _ (atB_file nD nL2 (by walk_at "lk") (by rw [List.map_append]; walk_at "lk")) ⟨⟨hn, b0, b1, t0, t1⟩, by rw [List.length_append]; show ns.length + 1 ≤ 4096; omega, by rw [List.all_append, hall]; rfl⟩ (by walk_at "fs") (by walk_at "fb")
      · walk_at "nw"
        exact q D (.file n b t ns) _ (atB_file nD ndd (by walk_at "lk") (by walk_at "lk")) ⟨⟨hn, b0, b1, t0, t1⟩, hl, hall⟩ (by walk_at "fs") (by walk_at "fb")
      · walk_at "nw"
        exact q D (.file n b t ns) _ (atB_file nD ndd (by walk_at "lk") (by walk_at "lk")) ⟨⟨hn, b0, b1, t0, t1⟩, hl, hall⟩ (by walk_at "fs") (by walk_at "fb")
    | sparse n b t z sp =>
      obtain ⟨d, as, np, ndd, hp, hd, hpd⟩ := inv_sparse hat
      obtain ⟨⟨hn, b0, b1, t0, t1⟩, z0, z1, hl, hso, hall⟩ := hok
      walk_at "nw"
      rename_i D hD
      have npD : p ≠ D := ne_of_none hp hD
      have hsD := hs.new (o := .lst [.str "sparse", .str n, .int b, .int t, .int z, .ref d]) hD
      refine sp_draw hsD (by decide) (by decide) (fun e H1 d0 d1 hs1 hb1 => ?_)
      have nD := hs.ne hD
      have gD := hb1 _ _ nD upd_same
      have hp1 := hb1 _ _ np (upd_old hD hp)
      have bb := (Same.but (a := a) (same_new (o := .lst [.str "sparse", .str n, .int b, .int t, .int z, .ref d]) hD)).trans hb1
      have hd1 := hb1 _ _ ndd (upd_old hD hd)
      have nDd : d ≠ D := ne_of_none hd hD
      have hpd1 : Paired (fun q (s : Int × List Int) => (q ≠ a ∧ q ≠ D) ∧ ∃ e, (e ≠ a ∧ e ≠ D) ∧ H1 q = some (.tup [.int s.1, .ref e]) ∧ H1 e = some (.lst (s.2.map V.int))) as sp :=
        Paired.mapP hpd fun q s ⟨n1, e, n2, g1, g2⟩ => ⟨⟨n1, ne_of_none g1 hD⟩, e, ⟨n2, ne_of_none g2 hD⟩, hb1 _ _ n1 (upd_old hD g1), hb1 _ _ n2 (upd_old hD g2)⟩
      obtain rfl | rfl | rfl | rfl | rfl | rfl | rfl | rfl : e = 0 ∨ e = 1 ∨ e = 2 ∨ e = 3 ∨ e = 4 ∨ e = 5 ∨ e = 6 ∨ e = 7 := by omega
      · walk_at "nw"
        have PP := pp_0 hpd1
        exact q D (.sparse n b t z sp) _ (atB_sparse (as := as) nD ndd (by walk_at "lk") (by walk_at "lk") PP) ⟨⟨hn, b0, b1, t0, t1⟩, z0, z1, hl, hso, hall⟩ (by walk_at "fs") (by walk_at "fb")
      · walk_at "nw"
        refine sp_aname (by walk_at "fs") (fun n2 H2 hn2 hs2 hb2 => ?_)
        have gD2 : H2 D = some (.lst [.str "sparse", .str n, .int b, .int t, .int z, .ref d]) := hb2 _ _ nD (by walk_at "lk")
        have hp2 : H2 p = some (.lst [.str "sparse", .str n, .int b, .int t, .int z, .ref d]) := hb2 _ _ np (by walk_at "lk")
        have bb2 : But a H H2 := But.trans (by walk_at "fb") hb2
        have hd2 := hb2 _ _ ndd (by walk_at "lk")
        have hpd2 : Paired (fun q (s : Int × List Int) => (q ≠ a ∧ q ≠ D) ∧ ∃ e, (e ≠ a ∧ e ≠ D) ∧ H2 q = some (.tup [.int s.1, .ref e]) ∧ H2 e = some (.lst (s.2.map V.int))) as sp := Paired.mapP hpd1 fun q s ⟨⟨n1, m1⟩, e, ⟨n2, m2⟩, g1, g2⟩ => ⟨⟨n1, m1⟩, e, ⟨n2, m2⟩, hb2 _ _ n1 g1, hb2 _ _ n2 g2⟩
        walk_at "nw"
        have PP := pp_set (o := .lst [.str "sparse", .str n2, .int b, .int t, .int z, .ref d]) hpd2
        exact q D (.sparse n2 b t z sp) _ (atB_sparse (as := as) nD ndd (by walk_at "lk") (by walk_at "lk") PP) ⟨⟨hn2, b0, b1, t0, t1⟩, z0, z1, hl, hso, hall⟩ (by walk_at "fs") (by walk_at "fb")
      · walk_at "nw"
        have PP := pp_set (o := .lst [.str "sparse", .str n, .int ((b + 1) % 4096), .int t, .int z, .ref d]) hpd1
        exact q D (.sparse n ((b + 1) % 4096) t z sp) _ (atB_sparse (as := as) nD ndd (by walk_at "lk") (by walk_at "lk") PP) ⟨⟨hn, (by omega), (by omega), t0, t1⟩, z0, z1, hl, hso, hall⟩ (by walk_at "fs") (by walk_at "fb")
      · walk_at "nw"
        have PP := pp_set (o := .lst [.str "sparse", .str n, .int b, .int ((t + 1) % 8589934592), .int z, .ref d]) hpd1
        exact q D (.sparse n b ((t + 1) % 8589934592) z sp) _ (atB_sparse (as := as) nD ndd (by walk_at "lk") (by walk_at "lk") PP) ⟨⟨hn, b0, b1, (by omega), (by omega)⟩, z0, z1, hl, hso, hall⟩ (by walk_at "fs") (by walk_at "fb")
      · walk_at "nw"
        exact q D (.sparse n b t z sp) _ (atB_sparse (as := as) nD ndd (by walk_at "lk") (by walk_at "lk") (by first | exact pp_0 hpd1 | exact pp_0 (pp_lay (by assumption) hpd1))) ⟨⟨hn, b0, b1, t0, t1⟩, z0, z1, hl, hso, hall⟩ (by walk_at "fs") (by walk_at "fb")
      · walk_at "nw"
        exact q D (.sparse n b t z sp) _ (atB_sparse (as := as) nD ndd (by walk_at "lk") (by walk_at "lk") (by first | exact pp_0 hpd1 | exact pp_0 (pp_lay (by assumption) hpd1))) ⟨⟨hn, b0, b1, t0, t1⟩, z0, z1, hl, hso, hall⟩ (by walk_at "fs") (by walk_at "fb")
      · walk_at "nw"
        refine r_iteD (fun hz4 => ?_) (fun hz4 => ?_)
        · walk_at "nw"
          have PP := pp_set (o := .lst [.str "sparse", .str n, .int b, .int t, .int (z + 1), .ref d]) hpd1
          exact q D (.sparse n b t (z + 1) sp) _ (atB_sparse (as := as) nD ndd (by walk_at "lk") (by walk_at "lk") PP) ⟨⟨hn, b0, b1, t0, t1⟩, by omega, by omega, hl, spansOk_more (by omega) _ _ hso, hall⟩ (by walk_at "fs") (by walk_at "fb")
        · walk_at "nw"
          have PP := pp_0 hpd1
          exact q D (.sparse n b t z sp) _ (atB_sparse (as := as) nD ndd (by walk_at "lk") (by walk_at "lk") PP) ⟨⟨hn, b0, b1, t0, t1⟩, z0, z1, hl, hso, hall⟩ (by walk_at "fs") (by walk_at "fb")
      · walk_at "nw"
        rename_i L hL
        rw [cutV_last, List.length_map, ← List.map_take] at *
        have nL : L ≠ a := hs1.ne hL
        have nLD : L ≠ D := (ne_of_none gD hL).symm
        exact q D (.sparse n b t z (sp.take (as.length - 1))) _ (atB_sparse nD nL (by walk_at "lk") (by rw [upd_ne nLD, upd_same]) (Paired.takeP _ (pp_set (pp_lay hL hpd1)))) ⟨⟨hn, b0, b1, t0, t1⟩, z0, z1, by rw [List.length_take]; omega, by rw [List.map_take]; exact spansOk_take _ _ _ hso, fun s hs => hall s (List.mem_of_mem_take hs)⟩ (by walk_at "fs") (by walk_at "fb")
end
end Th
namespace Th
open PySem PySem.Spec PyProof.Rows L2
local macro_rules | `(tactic| walk_at "lk") => `(tactic| first
  | assumption
  | exact upd_same
  | (refine upd_old (by assumption) ?_; walk_at "lk")
  | (refine upd_diff (by assumption) ?_; walk_at "lk")
  | (refine upd_diff (Ne.symm (by assumption)) ?_; walk_at "lk"))
local macro_rules | `(tactic| walk_at "cnd") => `(tactic| first
  | omega
  | (refine ⟨by omega, by omega⟩)
  | (refine ⟨by omega, by omega, by omega⟩)
  | (refine .inl ⟨by omega, by omega⟩)
  | (refine .inr ⟨by omega, by omega⟩)
  | (exact (show CPow _ _ from ⟨by decide, by decide, by omega⟩))
  | decide +kernel
  | (unfold CMulW; decide +kernel)
  | (exact wide_div (b := 64) (by omega) (by omega) (by decide) (by decide)))
local macro_rules | `(tactic| walk_at "rd1") => `(tactic| first
  | (with_reducible refine r_seq ?_)
  | (with_reducible refine r_asg ?_)
  | (with_reducible refine r_ret ?_)
  | (with_reducible refine r_if ?_)
  | (with_reducible refine r_gname ?_)
  | ((with_reducible refine' r_var ?hv ?_); (case hv => exact rfl))
  | (with_reducible refine r_c ?_)
  | (with_reducible refine r_op ?_)
  | (with_reducible refine r_I0 ?_)
  | ((with_reducible refine r_I ?hc ?_); (case hc => walk_at "cnd"))
  | (with_reducible refine r_test ?_)
  | (with_reducible refine r_tB ?_)
  | (with_reducible refine r_bl ?_)
  | (with_reducible refine r_not ?_)
  | (with_reducible refine r_and ?_)
  | (with_reducible refine r_or ?_)
  | (with_reducible refine r_ifE ?_)
  | (with_reducible refine r_notV ?_)
  | (with_reducible refine r_andV ?_)
  | (with_reducible refine r_orV ?_)
  | (with_reducible refine r_chain ?_)
  | (with_reducible refine r_cb ?_)
  | (with_reducible refine r_call ?_)
  | (with_reducible refine r_callN ?_)
  | (with_reducible refine r_nil ?_)
  | (with_reducible refine r_cons ?_)
  | ((with_reducible refine r_lst ?_))
  | ((with_reducible refine r_tup ?_))
  | ((with_reducible refine r_new ?_ ?_); (exact Nat.le_of_ble_eq_true rfl); (intro p hp))
  | (with_reducible refine r_rInt1 ?_)
  | (with_reducible refine r_rIntB ?_)
  | (with_reducible refine r_rAbs ?_)
  | (with_reducible refine r_rMin2 ?_)
  | (with_reducible refine r_rMax2 ?_)
  | ((with_reducible refine r_rLenZ ?hz ?_); (case hz => first | assumption | exact Nat.le_of_ble_eq_true rfl | (refine Nat.le_trans ?_ (by decide : 100000 ≤ sizeLine); omega)))
  | ((with_reducible refine r_addZ ?hz ?_); (case hz => (refine Nat.le_trans ?_ (by decide : 100000 ≤ sizeLine); first | omega | (simp only [Str.length] at *; simp; omega))))
  | ((with_reducible refine r_mulZ ?hz ?h0 ?h1 ?_); (case hz => first | omega | exact Nat.le_of_ble_eq_true rfl); (case h0 => omega); (case h1 => omega))
  | ((with_reducible refine' r_rLenQ ?h1 ?_); (case h1 => first | (exact .inl (by assumption)) | (exact .inr (by assumption)) | (exact .inl (SqL.of (by walk_at "lk"))) | (exact .inr (SqT.of (by walk_at "lk")))))
  | ((with_reducible refine r_eq ?hs ?_); (case hs => exact rfl))
  | ((with_reducible refine r_ne ?hs ?_); (case hs => exact rfl))
  | (with_reducible refine r_inC ?_)
  | ((with_reducible refine' r_cat ?h1 ?h2 ?h3 ?_); (case h1 => walk_at "lk"); (case h2 => walk_at "lk"); (case h3 => exact Nat.le_of_ble_eq_true rfl); (intro p hp))
  | ((with_reducible refine' r_rep ?h1 ?h2 ?h3 ?h4 ?_); (case h1 => walk_at "lk"); (case h2 => omega); (case h3 => omega); (case h4 => exact Nat.le_of_ble_eq_true rfl); (intro p hp))
  | ((with_reducible refine' r_append ?h1 ?h2 ?_); (case h1 => walk_at "lk"); (case h2 => first | exact (show _ + 1 ≤ sizeLine from Nat.le_of_ble_eq_true rfl) | exact Nat.lt_of_le_of_lt (by omega : _ ≤ 100000) (by decide)))
  | (with_reducible refine r_bm ?_)
  | ((with_reducible refine' r_tyL ?h1 ?_); (case h1 => walk_at "lk"))
  | ((with_reducible refine' r_ixL ?h1 ?h2 ?_); (case h1 => first | assumption | exact SqL.of (by walk_at "lk")); (case h2 => exact rfl))
  | ((with_reducible refine' r_ixT ?h1 ?h2 ?_); (case h1 => first | assumption | exact SqT.of (by walk_at "lk")); (case h2 => exact rfl))
  | (with_reducible refine r_gsub ?_)
  | ((with_reducible refine' r_setL ?h1 ?h2 ?_); (case h1 => walk_at "lk"); (case h2 => exact rfl))
  | (with_reducible refine r_un ?_)
  | (with_reducible refine r_neg ?_)
  | (with_reducible refine r_iteT ?_)
  | (with_reducible refine r_iteNT ?_)
  | (with_reducible refine r_iteNF ?_)
  | (with_reducible refine r_iteF ?_)
  | (with_reducible refine r_next ?_)
  | (with_reducible refine r_drop ?_)
  | (with_reducible refine r_cont ?_)
  | (with_reducible refine r_brk ?_))
local macro_rules | `(tactic| walk_at "ty") => `(tactic| first
  | assumption
  | exact .base (.int _)
  | exact .base (.str _)
  | exact .base (.bl _)
  | exact .base .non
  | exact .byt _
  | exact .base (.lst (by walk_at "lk"))
  | exact .base (.tup (by walk_at "lk")))
local macro_rules | `(tactic| walk_at "rd2") => `(tactic| first
  | walk_at "rd1"
  | ((with_reducible refine' r_isi true ?ht ?hk ?_); (case ht => walk_at "ty"); (case hk => first | assumption | decide +kernel))
  | ((with_reducible refine' r_isi false ?ht ?hk ?_); (case ht => walk_at "ty"); (case hk => first | assumption | decide +kernel))
  | ((with_reducible refine' r_isiT2 true true ?hT ?ht ?hk ?hk2 ?_); (case hT => walk_at "lk"); (case ht => walk_at "ty"); (case hk => decide +kernel); (case hk2 => decide +kernel))
  | ((with_reducible refine' r_isiT2 true false ?hT ?ht ?hk ?hk2 ?_); (case hT => walk_at "lk"); (case ht => walk_at "ty"); (case hk => decide +kernel); (case hk2 => decide +kernel))
  | ((with_reducible refine' r_isiT2 false true ?hT ?ht ?hk ?hk2 ?_); (case hT => walk_at "lk"); (case ht => walk_at "ty"); (case hk => decide +kernel); (case hk2 => decide +kernel))
  | ((with_reducible refine' r_isiT2 false false ?hT ?ht ?hk ?hk2 ?_); (case hT => walk_at "lk"); (case ht => walk_at "ty"); (case hk => decide +kernel); (case hk2 => decide +kernel))
  | (with_reducible refine r_iteNT ?_)
  | ((show (if (!true) = true then _ else _)); refine r_iteNT ?_)
  | (with_reducible refine r_r1 ?_)
  | (with_reducible refine r_maks ?_)
  | (with_reducible refine r_sfld ?_)
  | ((with_reducible refine' r_sfldE ?h1 ?h2 ?h3 ?h4 ?_); (case h1 => walk_at "lk"); (case h2 => assumption); (case h3 => assumption); (case h4 => exact (show _ + 1 ≤ 1000 from Nat.le_of_ble_eq_true rfl)))
  | (with_reducible refine r_fld ?_)
  | (with_reducible refine r_join ?_)
  | (with_reducible refine r_jcons ?_)
  | (with_reducible refine r_jnil ?_)
  | ((with_reducible refine r_rLenY ?hz ?_); (case hz => first | assumption | (refine Nat.le_trans ?_ (by decide : 100000 ≤ sizeLine); omega)))
  | (with_reducible refine r_par ?_)
  | (with_reducible refine r_pair ?_)
  | (with_reducible refine r_par3 ?_)
  | (with_reducible refine r_trip ?_)
  | ((with_reducible refine' r_gtup ?h1 ?h2 ?_); (case h1 => first | assumption | exact SqT.of (by walk_at "lk")); (case h2 => exact rfl))
  | (with_reducible refine r_gcons ?_)
  | (with_reducible refine r_gnil ?_)
  | ((with_reducible refine' r_slL ?h1 ?_); (case h1 => first | assumption | exact SqL.of (by walk_at "lk")); (intro p hp))
  | (with_reducible refine r_iTup ?_)
  | ((with_reducible refine' r_tupE ?h1 ?_); (case h1 => first | assumption | exact SqT.of (by walk_at "lk")))
  | (with_reducible refine r_m1 ?_)
  | (with_reducible refine r_isZ ?_)
  | (with_reducible refine r_sl ?_)
  | (with_reducible refine r_noPart ?_)
  | (with_reducible refine r_part ?_)
  | (with_reducible refine r_partE ?_)
  | ((with_reducible refine r_slS ?hz ?_); (case hz => first | assumption | (refine Nat.le_trans ?_ (by decide : 100000 ≤ sizeLine); omega)))
  | ((with_reducible refine' r_inT ?h1 ?h2 ?h3 ?_); (case h1 => first | assumption | (exact SqT.of (by walk_at "lk"))); (case h2 => exact rfl); (case h3 => exact rfl))
  | ((with_reducible refine' r_inL ?h1 ?h2 ?h3 ?_); (case h1 => first | assumption | (exact SqL.of (by walk_at "lk"))); (case h2 => exact rfl); (case h3 => exact rfl))
  | (with_reducible refine r_lc ?_)
  | (with_reducible refine r_for ?_)
  | (with_reducible refine r_iStr ?_)
  | (with_reducible refine r_strE ?_)
  | (with_reducible refine r_iList ?_)
  | ((with_reducible refine' r_listE ?h1 ?_); (case h1 => first | assumption | exact SqL.of (by walk_at "lk")))
  | (with_reducible refine r_iRng1 ?_)
  | ((with_reducible refine' r_rngE ?h0 ?h1 ?_); (case h0 => first | omega | (split <;> omega)); (case h1 => first | omega | (split <;> omega))))
local macro_rules | `(tactic| walk_at "rd") => `(tactic| (repeat walk_at "rd2"))
local macro_rules | `(tactic| walk_at "st") => `(tactic| (repeat (first
  | (with_reducible refine r_gname ?_)
  | (with_reducible refine r_next ?_)
  | (with_reducible refine r_seq ?_)
  | (with_reducible refine r_asg ?_)
  | (with_reducible refine r_ret ?_)
  | (with_reducible refine r_for ?_)
  | (with_reducible refine r_iRng1 ?_)
  | (with_reducible refine r_iList ?_)
  | (with_reducible refine r_cons ?_)
  | (with_reducible refine r_par ?_)
  | (with_reducible refine r_par3 ?_))))
/-! ### members as data -/
def Mem.data : Mem → PyData
  | .file n b t ns => .list [.str "file", .str n, .int b, .int t, .list (ns.map PyData.int)]
  | .sparse n b t z sp => .list [.str "sparse", .str n, .int b, .int t, .int z, .list (sp.map pcD)]
  | .dir n b t => .list [.str "directory", .str n, .int b, .int t]
  | .sym n b t g => .list [.str "symlink", .str n, .int b, .int t, .str g]
  | .lnk n b t g => .list [.str "link", .str n, .int b, .int t, .str g]
theorem Mem.dp {K : PySem.W.Frag} {H : Hp} {p : Addr} {m : Mem} (h : m.At H p) : Dp K H (.ref p) m.data := by
  cases m with
  | file n b t ns =>
    obtain ⟨d, h1, h2⟩ := h
    exact dp_one h1 (.cons (.str _) (.cons (.str _) (.cons (.int _) (.cons (.int _) (.cons (dp_one h2 (dpa_ints ns)) .nil)))))
  | sparse n b t z sp =>
    obtain ⟨d, h1, as, h2, h3⟩ := h
    exact dp_one h1 (.cons (.str _) (.cons (.str _) (.cons (.int _) (.cons (.int _) (.cons (.int _) (.cons (dp_one h2 (dpa_pcs (fun _ _ z => z) h3)) .nil))))))
  | dir n b t => exact dp_one h (.cons (.str _) (.cons (.str _) (.cons (.int _) (.cons (.int _) .nil))))
  | sym n b t g => exact dp_one h (.cons (.str _) (.cons (.str _) (.cons (.int _) (.cons (.int _) (.cons (.str _) .nil)))))
  | lnk n b t g => exact dp_one h (.cons (.str _) (.cons (.str _) (.cons (.int _) (.cons (.int _) (.cons (.str _) .nil)))))
theorem k_ok : PyData.strOk "file" = true ∧ PyData.strOk "sparse" = true ∧ PyData.strOk "directory" = true ∧ PyData.strOk "symlink" = true ∧ PyData.strOk "link" = true := ⟨by decide +kernel, by decide +kernel, by decide +kernel, by decide +kernel, by decide +kernel⟩
theorem Mem.shp {m : Mem} (h : m.Ok) : SeqAt.shaped m.data = true := by
  obtain ⟨k1, k2, k3, k4, k5⟩ := k_ok
  cases m with
  | file n b t ns =>
    have hn := strOk_name (of_name h.1.1).2.2
    simp [Mem.data, SeqAt.shaped, PyData.canLay0, PyData.canLayAll0, PyData.depth, PyData.depthAll, k1, hn, (ints_lay ns).1, (ints_lay ns).2]
  | sparse n b t z sp =>
    have hn := strOk_name (of_name h.1.1).2.2
    obtain ⟨l1, l2, _⟩ := pcs_lay sp
    simp [Mem.data, SeqAt.shaped, PyData.canLay0, PyData.canLayAll0, PyData.depth, PyData.depthAll, k2, hn, l1]
    omega
  | dir n b t =>
    have hn := strOk_name (of_name h.1).2.2
    simp [Mem.data, SeqAt.shaped, PyData.canLay0, PyData.canLayAll0, PyData.depth, PyData.depthAll, k3, hn]
  | sym n b t g =>
    have hn := strOk_name (of_name h.1.1).2.2
    have hg := strOk_name (of_name h.2).2.2
    simp [Mem.data, SeqAt.shaped, PyData.canLay0, PyData.canLayAll0, PyData.depth, PyData.depthAll, k4, hn, hg]
  | lnk n b t g =>
    have hn := strOk_name (of_name h.1.1).2.2
    have hg := strOk_name (of_name h.2).2.2
    simp [Mem.data, SeqAt.shaped, PyData.canLay0, PyData.canLayAll0, PyData.depth, PyData.depthAll, k5, hn, hg]
theorem ints_eq : ∀ ns ms : List Int, PyData.eqvAll (ns.map PyData.int) (ms.map PyData.int) = decide (ns = ms)
  | [], [] => by simp [PyData.eqvAll]
  | [], _ :: _ => by simp [PyData.eqvAll]
  | _ :: _, [] => by simp [PyData.eqvAll]
  | n :: r, m :: s => by
    rw [List.map_cons, List.map_cons]
    simp only [PyData.eqvAll, PyData.eqv, ints_eq r s, List.cons.injEq, Bool.decide_and]
    rfl
theorem pcs_eq : ∀ x y : List (Int × List Int), PyData.eqvAll (x.map pcD) (y.map pcD) = decide (x = y)
  | [], [] => by simp [PyData.eqvAll]
  | [], _ :: _ => by simp [PyData.eqvAll]
  | _ :: _, [] => by simp [PyData.eqvAll]
  | a :: r, b :: s => by
    rw [List.map_cons, List.map_cons]
    simp only [PyData.eqvAll, PyData.eqv, pcs_eq r s, pcD, ints_eq]
    rw [Bool.eq_iff_iff]
    simp [Prod.ext_iff]
theorem kinds_ne : ("file" : Str) ≠ "sparse" ∧ ("file" : Str) ≠ "directory" ∧ ("file" : Str) ≠ "symlink" ∧ ("file" : Str) ≠ "link" ∧ ("sparse" : Str) ≠ "directory" ∧ ("sparse" : Str) ≠ "symlink" ∧ ("sparse" : Str) ≠ "link" ∧ ("directory" : Str) ≠ "symlink" ∧ ("directory" : Str) ≠ "link" ∧ ("symlink" : Str) ≠ "link" := by decide +kernel
theorem eqv_data (m m' : Mem) : PyData.eqv m.data m'.data = decide (m = m') := by
  obtain ⟨a1, a2, a3, a4, a5, a6, a7, a8, a9, a0⟩ := kinds_ne
  rw [Bool.eq_iff_iff]
  cases m <;> cases m' <;> simp [Mem.data, PyData.eqv, PyData.eqvAll, ints_eq, pcs_eq, a1, a2, a3, a4, a5, a6, a7, a8, a9, a0, a1.symm, a2.symm, a3.symm, a4.symm, a5.symm, a6.symm, a7.symm, a8.symm, a9.symm, a0.symm]
end Th
namespace Th
open PySem PySem.Spec PyProof.Rows L2
local macro_rules | `(tactic| walk_at "lk") => `(tactic| first
  | assumption
  | exact upd_same
  | (refine upd_old (by assumption) ?_; walk_at "lk")
  | (refine upd_diff (by assumption) ?_; walk_at "lk")
  | (refine upd_diff (Ne.symm (by assumption)) ?_; walk_at "lk"))
local macro_rules | `(tactic| walk_at "cnd") => `(tactic| first
  | omega
  | (refine ⟨by omega, by omega⟩)
  | (refine ⟨by omega, by omega, by omega⟩)
  | (refine .inl ⟨by omega, by omega⟩)
  | (refine .inr ⟨by omega, by omega⟩)
  | (exact (show CPow _ _ from ⟨by decide, by decide, by omega⟩))
  | decide +kernel
  | (unfold CMulW; decide +kernel)
  | (exact wide_div (b := 64) (by omega) (by omega) (by decide) (by decide)))
local macro_rules | `(tactic| walk_at "rd1") => `(tactic| first
  | (with_reducible refine r_seq ?_)
  | (with_reducible refine r_asg ?_)
  | (with_reducible refine r_ret ?_)
  | (with_reducible refine r_if ?_)
  | (with_reducible refine r_gname ?_)
  | ((with_reducible refine' r_var ?hv ?_); (case hv => exact rfl))
  | (with_reducible refine r_c ?_)
  | (with_reducible refine r_op ?_)
  | (with_reducible refine r_I0 ?_)
  | ((with_reducible refine r_I ?hc ?_); (case hc => walk_at "cnd"))
  | (with_reducible refine r_test ?_)
  | (with_reducible refine r_tB ?_)
  | (with_reducible refine r_bl ?_)
  | (with_reducible refine r_not ?_)
  | (with_reducible refine r_and ?_)
  | (with_reducible refine r_or ?_)
  | (with_reducible refine r_ifE ?_)
  | (with_reducible refine r_notV ?_)
  | (with_reducible refine r_andV ?_)
  | (with_reducible refine r_orV ?_)
  | (with_reducible refine r_chain ?_)
  | (with_reducible refine r_cb ?_)
  | (with_reducible refine r_call ?_)
  | (with_reducible refine r_callN ?_)
  | (with_reducible refine r_nil ?_)
  | (with_reducible refine r_cons ?_)
  | ((with_reducible refine r_lst ?_))
  | ((with_reducible refine r_tup ?_))
  | ((with_reducible refine r_new ?_ ?_); (exact Nat.le_of_ble_eq_true rfl); (intro p hp))
  | (with_reducible refine r_rInt1 ?_)
  | (with_reducible refine r_rIntB ?_)
  | (with_reducible refine r_rAbs ?_)
  | (with_reducible refine r_rMin2 ?_)
  | (with_reducible refine r_rMax2 ?_)
  | ((with_reducible refine r_rLenZ ?hz ?_); (case hz => first | assumption | exact Nat.le_of_ble_eq_true rfl | (refine Nat.le_trans ?_ (by decide : 100000 ≤ sizeLine); omega)))
  | ((with_reducible refine r_addZ ?hz ?_); (case hz => (refine Nat.le_trans ?_ (by decide : 100000 ≤ sizeLine); first | omega | (simp only [Str.length] at *; simp; omega))))
  | ((with_reducible refine r_mulZ ?hz ?h0 ?h1 ?_); (case hz => first | omega | exact Nat.le_of_ble_eq_true rfl); (case h0 => omega); (case h1 => omega))
  | ((with_reducible refine' r_rLenQ ?h1 ?_); (case h1 => first | (exact .inl (by assumption)) | (exact .inr (by assumption)) | (exact .inl (SqL.of (by walk_at "lk"))) | (exact .inr (SqT.of (by walk_at "lk")))))
  | ((with_reducible refine r_eq ?hs ?_); (case hs => exact rfl))
  | ((with_reducible refine r_ne ?hs ?_); (case hs => exact rfl))
  | (with_reducible refine r_inC ?_)
  | ((with_reducible refine' r_cat ?h1 ?h2 ?h3 ?_); (case h1 => walk_at "lk"); (case h2 => walk_at "lk"); (case h3 => exact Nat.le_of_ble_eq_true rfl); (intro p hp))
  | ((with_reducible refine' r_rep ?h1 ?h2 ?h3 ?h4 ?_); (case h1 => walk_at "lk"); (case h2 => omega); (case h3 => omega); (case h4 => exact Nat.le_of_ble_eq_true rfl); (intro p hp))
  | ((with_reducible refine' r_append ?h1 ?h2 ?_); (case h1 => walk_at "lk"); (case h2 => first | exact (show _ + 1 ≤ sizeLine from Nat.le_of_ble_eq_true rfl) | exact Nat.lt_of_le_of_lt (by omega : _ ≤ 100000) (by decide)))
  | (with_reducible refine r_bm ?_)
  | ((with_reducible refine' r_tyL ?h1 ?_); (case h1 => walk_at "lk"))
  | ((with_reducible refine' r_ixL ?h1 ?h2 ?_); (case h1 => first | assumption | exact SqL.of (by walk_at "lk")); (case h2 => exact rfl))
  | ((with_reducible refine' r_ixT ?h1 ?h2 ?_); (case h1 => first | assumption | exact SqT.of (by walk_at "lk")); (case h2 => exact rfl))
  | (with_reducible refine r_gsub ?_)
  | ((with_reducible refine' r_setL ?h1 ?h2 ?_); (case h1 => walk_at "lk"); (case h2 => exact rfl))
  | (with_reducible refine r_un ?_)
  | (with_reducible refine r_neg ?_)
  | (with_reducible refine r_iteT ?_)
  | (with_reducible refine r_iteNT ?_)
  | (with_reducible refine r_iteNF ?_)
  | (with_reducible refine r_iteF ?_)
  | (with_reducible refine r_next ?_)
  | (with_reducible refine r_drop ?_)
  | (with_reducible refine r_cont ?_)
  | (with_reducible refine r_brk ?_))
local macro_rules | `(tactic| walk_at "ty") => `(tactic| first
  | assumption
  | exact .base (.int _)
  | exact .base (.str _)
  | exact .base (.bl _)
  | exact .base .non
  | exact .byt _
  | exact .base (.lst (by walk_at "lk"))
  | exact .base (.tup (by walk_at "lk")))
local macro_rules | `(tactic| walk_at "rd2") => `(tactic| first
  | walk_at "rd1"
  | ((with_reducible refine' r_isi true ?ht ?hk ?_); (case ht => walk_at "ty"); (case hk => first | assumption | decide +kernel))
  | ((with_reducible refine' r_isi false ?ht ?hk ?_); (case ht => walk_at "ty"); (case hk => first | assumption | decide +kernel))
  | ((with_reducible refine' r_isiT2 true true ?hT ?ht ?hk ?hk2 ?_); (case hT => walk_at "lk"); (case ht => walk_at "ty"); (case hk => decide +kernel); (case hk2 => decide +kernel))
  | ((with_reducible refine' r_isiT2 true false ?hT ?ht ?hk ?hk2 ?_); (case hT => walk_at "lk"); (case ht => walk_at "ty"); (case hk => decide +kernel); (case hk2 => decide +kernel))
  | ((with_reducible refine' r_isiT2 false true ?hT ?ht ?hk ?hk2 ?_); (case hT => walk_at "lk"); (case ht => walk_at "ty"); (case hk => decide +kernel); (case hk2 => decide +kernel))
  | ((with_reducible refine' r_isiT2 false false ?hT ?ht ?hk ?hk2 ?_); (case hT => walk_at "lk"); (case ht => walk_at "ty"); (case hk => decide +kernel); (case hk2 => decide +kernel))
  | (with_reducible refine r_iteNT ?_)
  | ((show (if (!true) = true then _ else _)); refine r_iteNT ?_)
  | (with_reducible refine r_r1 ?_)
  | (with_reducible refine r_maks ?_)
  | (with_reducible refine r_sfld ?_)
  | ((with_reducible refine' r_sfldE ?h1 ?h2 ?h3 ?h4 ?_); (case h1 => walk_at "lk"); (case h2 => assumption); (case h3 => assumption); (case h4 => exact (show _ + 1 ≤ 1000 from Nat.le_of_ble_eq_true rfl)))
  | (with_reducible refine r_fld ?_)
  | (with_reducible refine r_join ?_)
  | (with_reducible refine r_jcons ?_)
  | (with_reducible refine r_jnil ?_)
  | ((with_reducible refine r_rLenY ?hz ?_); (case hz => first | assumption | (refine Nat.le_trans ?_ (by decide : 100000 ≤ sizeLine); omega)))
  | (with_reducible refine r_par ?_)
  | (with_reducible refine r_pair ?_)
  | (with_reducible refine r_par3 ?_)
  | (with_reducible refine r_trip ?_)
  | ((with_reducible refine' r_gtup ?h1 ?h2 ?_); (case h1 => first | assumption | exact SqT.of (by walk_at "lk")); (case h2 => exact rfl))
  | (with_reducible refine r_gcons ?_)
  | (with_reducible refine r_gnil ?_)
  | ((with_reducible refine' r_slL ?h1 ?_); (case h1 => first | assumption | exact SqL.of (by walk_at "lk")); (intro p hp))
  | (with_reducible refine r_iTup ?_)
  | ((with_reducible refine' r_tupE ?h1 ?_); (case h1 => first | assumption | exact SqT.of (by walk_at "lk")))
  | (with_reducible refine r_m1 ?_)
  | (with_reducible refine r_isZ ?_)
  | (with_reducible refine r_sl ?_)
  | (with_reducible refine r_noPart ?_)
  | (with_reducible refine r_part ?_)
  | (with_reducible refine r_partE ?_)
  | ((with_reducible refine r_slS ?hz ?_); (case hz => first | assumption | (refine Nat.le_trans ?_ (by decide : 100000 ≤ sizeLine); omega)))
  | ((with_reducible refine' r_inT ?h1 ?h2 ?h3 ?_); (case h1 => first | assumption | (exact SqT.of (by walk_at "lk"))); (case h2 => exact rfl); (case h3 => exact rfl))
  | ((with_reducible refine' r_inL ?h1 ?h2 ?h3 ?_); (case h1 => first | assumption | (exact SqL.of (by walk_at "lk"))); (case h2 => exact rfl); (case h3 => exact rfl))
  | (with_reducible refine r_lc ?_)
  | (with_reducible refine r_for ?_)
  | (with_reducible refine r_iStr ?_)
  | (with_reducible refine r_strE ?_)
  | (with_reducible refine r_iList ?_)
  | ((with_reducible refine' r_listE ?h1 ?_); (case h1 => first | assumption | exact SqL.of (by walk_at "lk")))
  | (with_reducible refine r_iRng1 ?_)
  | ((with_reducible refine' r_rngE ?h0 ?h1 ?_); (case h0 => first | omega | (split <;> omega)); (case h1 => first | omega | (split <;> omega))))
local macro_rules | `(tactic| walk_at "rd") => `(tactic| (repeat walk_at "rd2"))
local macro_rules | `(tactic| walk_at "st") => `(tactic| (repeat (first
  | (with_reducible refine r_gname ?_)
  | (with_reducible refine r_next ?_)
  | (with_reducible refine r_seq ?_)
  | (with_reducible refine r_asg ?_)
  | (with_reducible refine r_ret ?_)
  | (with_reducible refine r_for ?_)
  | (with_reducible refine r_iRng1 ?_)
  | (with_reducible refine r_iList ?_)
  | (with_reducible refine r_cons ?_)
  | (with_reducible refine r_par ?_)
  | (with_reducible refine r_par3 ?_))))
/-! ### all five classes together -/
def Cs.all (c : Cs) : List Addr := [c.F, c.S, c.D, c.Y, c.L]
def Cs.off (c : Cs) : List (Addr × Addr) := [(c.F, c.S), (c.F, c.D), (c.F, c.Y), (c.F, c.L), (c.S, c.F), (c.S, c.D), (c.S, c.Y), (c.S, c.L), (c.D, c.F), (c.D, c.S), (c.D, c.Y), (c.D, c.L), (c.Y, c.F), (c.Y, c.S), (c.Y, c.D), (c.Y, c.L), (c.L, c.F), (c.L, c.S), (c.L, c.D), (c.L, c.Y)]
structure EqAll (P : Program) (w : World) (K : PySem.W.Frag) (mg : Str → Option Value) (base : Heap) (c : Cs) (aM : Addr) : Prop where
  eF : EqT P w K mg base 2 c.F (RF c.F)
  eS : EqT P w K mg base 2 c.S (RS c.S)
  eD : EqT P w K mg base 2 c.D (RD c.D)
  eY : EqT P w K mg base 2 c.Y (RY c.Y)
  eL : EqT P w K mg base 2 c.L (RL c.L)
  fF : CF K c.F aM "file"
  fS : CF K c.S aM "sparse"
  fD : CF K c.D aM "directory"
  fY : CF K c.Y aM "symlink"
  fL : CF K c.L aM "link"
  nf : ∀ C ∈ c.all, ∀ D ∈ c.all, PySem.W.notFirst K C (.ref D) = true
  ki : ∀ p ∈ c.off, PySem.W.kitOne K (.ref p.2) (.ref p.1) = some false
theorem CF.ty {K : PySem.W.Frag} {C aM a dx : Addr} {kind : Str} {fs : List (Str × V)} {H : Hp} (c : CF K C aM kind) (h : H a = some (.ins C dx fs)) : TyX K H (.ref a) (.ref C) := .base (.ins h c.cl c.ha c.hn c.htk c.hm)
theorem own_eq {P : Program} {w : World} {K : PySem.W.Frag} {mg : Str → Option Value} {base : Heap} {c : Cs} {aM a b : Addr} {m1 m2 : Mem} {H : Hp} {Q : VK} {neg : Bool → Bool} (e : EqAll P w K mg base c aM) (o1 : m1.Ok) (o2 : m2.Ok) (h1 : m1.Ins c H a) (h2 : m2.Ins c H b)
    (q : Q (.bl (neg (decide (m1 = m2)))) H) : rOwnQ P w K mg base 2 neg (.ref a) (.ref b) H Q := by
  cases m1 <;> cases m2
  all_goals
    first
    | (obtain ⟨dx, p, hx, gx⟩ := h1; obtain ⟨dy, p2, hy, gy⟩ := h2)
    | (obtain ⟨dx, p, hx, gx⟩ := h1; obtain ⟨dy, hy⟩ := h2)
    | (obtain ⟨dx, hx⟩ := h1; obtain ⟨dy, p, hy, gy⟩ := h2)
    | (obtain ⟨dx, hx⟩ := h1; obtain ⟨dy, hy⟩ := h2)
  case file.file => exact ⟨_, _, a, dx, _, _, b, dy, _, _, e.eF, rfl, rfl, hx, hy, e.nf _ (by simp [Cs.all]) _ (by simp [Cs.all]), .inr ⟨dx, dy, _, _, _, _, _, _, _, _, hx, hy, o1.2.2, o2.2.2, rfl⟩, q⟩
  case dir.dir => exact ⟨_, _, a, dx, _, _, b, dy, _, _, e.eD, rfl, rfl, hx, hy, e.nf _ (by simp [Cs.all]) _ (by simp [Cs.all]), .inr ⟨dx, dy, _, _, _, _, _, _, hx, hy, rfl⟩, q⟩
  case sym.sym => exact ⟨_, _, a, dx, _, _, b, dy, _, _, e.eY, rfl, rfl, hx, hy, e.nf _ (by simp [Cs.all]) _ (by simp [Cs.all]), .inr ⟨dx, dy, _, _, _, _, _, _, _, _, hx, hy, rfl⟩, q⟩
  case lnk.lnk => exact ⟨_, _, a, dx, _, _, b, dy, _, _, e.eL, rfl, rfl, hx, hy, e.nf _ (by simp [Cs.all]) _ (by simp [Cs.all]), .inr ⟨dx, dy, _, _, _, _, _, _, _, _, hx, hy, rfl⟩, q⟩
  case sparse.sparse => exact ⟨_, _, a, dx, _, _, b, dy, _, _, e.eS, rfl, rfl, hx, hy, e.nf _ (by simp [Cs.all]) _ (by simp [Cs.all]), .inr ⟨dx, dy, _, _, _, _, _, _, _, _, _, _, p, p2, hx, hy, gx, gy, o1.2.2.2.2.2, o2.2.2.2.2.2, rfl⟩, q⟩
  all_goals
    first
    | exact ⟨_, _, a, dx, _, _, b, dy, _, false, e.eF, rfl, rfl, hx, hy, e.nf _ (by simp [Cs.all]) _ (by simp [Cs.all]), .inl ⟨by first | exact e.fS.ty hy | exact e.fD.ty hy | exact e.fY.ty hy | exact e.fL.ty hy, e.ki (_, _) (by simp [Cs.off]), rfl⟩, by simpa using q⟩
    | exact ⟨_, _, a, dx, _, _, b, dy, _, false, e.eS, rfl, rfl, hx, hy, e.nf _ (by simp [Cs.all]) _ (by simp [Cs.all]), .inl ⟨by first | exact e.fF.ty hy | exact e.fD.ty hy | exact e.fY.ty hy | exact e.fL.ty hy, e.ki (_, _) (by simp [Cs.off]), rfl⟩, by simpa using q⟩
    | exact ⟨_, _, a, dx, _, _, b, dy, _, false, e.eD, rfl, rfl, hx, hy, e.nf _ (by simp [Cs.all]) _ (by simp [Cs.all]), .inl ⟨by first | exact e.fF.ty hy | exact e.fS.ty hy | exact e.fY.ty hy | exact e.fL.ty hy, e.ki (_, _) (by simp [Cs.off]), rfl⟩, by simpa using q⟩
    | exact ⟨_, _, a, dx, _, _, b, dy, _, false, e.eY, rfl, rfl, hx, hy, e.nf _ (by simp [Cs.all]) _ (by simp [Cs.all]), .inl ⟨by first | exact e.fF.ty hy | exact e.fS.ty hy | exact e.fD.ty hy | exact e.fL.ty hy, e.ki (_, _) (by simp [Cs.off]), rfl⟩, by simpa using q⟩
    | exact ⟨_, _, a, dx, _, _, b, dy, _, false, e.eL, rfl, rfl, hx, hy, e.nf _ (by simp [Cs.all]) _ (by simp [Cs.all]), .inl ⟨by first | exact e.fF.ty hy | exact e.fS.ty hy | exact e.fD.ty hy | exact e.fY.ty hy, e.ki (_, _) (by simp [Cs.off]), rfl⟩, by simpa using q⟩
theorem own_in {P : Program} {w : World} {K : PySem.W.Frag} {mg : Str → Option Value} {base : Heap} {c : Cs} {aM a p : Addr} {m : Mem} {H : Hp} {Q : VK} {xs : List V} (e : EqAll P w K mg base c aM) (h : m.Ins c H a) (hp : H p = some (.lst xs))
    (hz : ∀ z ∈ xs, z = .non ∨ (∃ s, z = .str s) ∨ ∃ b ys, z = .ref b ∧ (H b = some (.lst ys) ∨ H b = some (.tup ys))) (q : Q (.bl false) H) : rInQ P w K mg base 2 (.ref a) (.ref p) H Q := by
  cases m
  · obtain ⟨dx, hx⟩ := h; exact ⟨_, _, a, dx, _, p, xs, e.eF, rfl, rfl, hx, hp, hz, q⟩
  · obtain ⟨dx, _, hx, _⟩ := h; exact ⟨_, _, a, dx, _, p, xs, e.eS, rfl, rfl, hx, hp, hz, q⟩
  · obtain ⟨dx, hx⟩ := h; exact ⟨_, _, a, dx, _, p, xs, e.eD, rfl, rfl, hx, hp, hz, q⟩
  · obtain ⟨dx, hx⟩ := h; exact ⟨_, _, a, dx, _, p, xs, e.eY, rfl, rfl, hx, hp, hz, q⟩
  · obtain ⟨dx, hx⟩ := h; exact ⟨_, _, a, dx, _, p, xs, e.eL, rfl, rfl, hx, hp, hz, q⟩
theorem own_isi {P : Program} {w : World} {K : PySem.W.Frag} {mg : Str → Option Value} {base : Heap} {c : Cs} {aM a : Addr} {m : Mem} {H : Hp} {Q : VK} (e : EqAll P w K mg base c aM) (h : m.Ins c H a) (q : Q (.bl true) H) : rIsi K [.ref a, .ref aM] H Q := by
  cases m
  · obtain ⟨dx, hx⟩ := h; exact r_isiO e.fF hx q
  · obtain ⟨dx, _, hx, _⟩ := h; exact r_isiO e.fS hx q
  · obtain ⟨dx, hx⟩ := h; exact r_isiO e.fD hx q
  · obtain ⟨dx, hx⟩ := h; exact r_isiO e.fY hx q
  · obtain ⟨dx, hx⟩ := h; exact r_isiO e.fL hx q
/-- the repr of whichever member it is -/
theorem own_rep {c : Cs} {a : Addr} {m : Mem} {H : Hp} {Q : VK} (o : m.Ok) (h : m.Ins c H a) (q : ∀ s, Q (.str s) H) :
    rOr (rReprO c.F (spRepr c.F "File")) (rOr (rReprO c.S (spRepr c.S "Sparse")) (rOr (rReprO c.D (spRepr c.D "Directory")) (rOr (rReprO c.Y (spRepr c.Y "Symlink")) (rReprO c.L (spRepr c.L "Link"))))) [.ref a] H Q := by
  cases m
  · obtain ⟨dx, hx⟩ := h; exact .inl ⟨a, dx, _, rfl, hx, fun E => ⟨a, dx, _, _, rfl, hx, rfl, o.1.1, _, rfl, q _⟩⟩
  · obtain ⟨dx, _, hx, _⟩ := h; exact .inr (.inl ⟨a, dx, _, rfl, hx, fun E => ⟨a, dx, _, _, rfl, hx, rfl, o.1.1, _, rfl, q _⟩⟩)
  · obtain ⟨dx, hx⟩ := h; exact .inr (.inr (.inl ⟨a, dx, _, rfl, hx, fun E => ⟨a, dx, _, _, rfl, hx, rfl, o.1, _, rfl, q _⟩⟩))
  · obtain ⟨dx, hx⟩ := h; exact .inr (.inr (.inr (.inl ⟨a, dx, _, rfl, hx, fun E => ⟨a, dx, _, _, rfl, hx, rfl, o.1.1, _, rfl, q _⟩⟩)))
  · obtain ⟨dx, hx⟩ := h; exact .inr (.inr (.inr (.inr ⟨a, dx, _, rfl, hx, fun E => ⟨a, dx, _, _, rfl, hx, rfl, o.1.1, _, rfl, q _⟩⟩)))
/-- mode told, time left out -/
theorem fnS_ofM {P : Program} {w : World} {K : PySem.W.Frag} {mg : Str → Option Value} {base : Heap} {k n : Nat} {f : Addr} {fd : FuncData} {ps ks : List Str} {sp : Sp} {mv : List Value} (F : FnOk P w K mg base CX0 k f fd ps sp) (hb : KBn K fd ps n ks (fun us ws => us ++ ws ++ mv) (fun us ws => us ++ ws ++ [.int 0])) :
    FnS P w K mg base k f ks (fun vs zs H Q => vs.length = n ∧ ∀ E, sp (vs ++ zs ++ [.int 0]) H Q E) := by
  intro A outer s H us ws vs zs Q E hr e0 rv rz hw ⟨hn, h⟩
  have KX : K.In s.heap := e0.mod.kin.keeps fun b o e => (e0.bs b o e).1
  exact F.run A outer s H _ (us ++ ws ++ mv) (vs ++ zs ++ [.int 0]) Q E hr e0 (hb.to s us ws KX (by rw [← rv.length]; exact hn) hw) (hb.rel rv rz) (h E)
end Th
namespace Th
open PySem PySem.Spec PyProof.Rows L2
local macro_rules | `(tactic| walk_at "lk") => `(tactic| first
  | assumption
  | exact upd_same
  | (refine upd_old (by assumption) ?_; walk_at "lk")
  | (refine upd_diff (by assumption) ?_; walk_at "lk")
  | (refine upd_diff (Ne.symm (by assumption)) ?_; walk_at "lk"))
local macro_rules | `(tactic| walk_at "cnd") => `(tactic| first
  | omega
  | (refine ⟨by omega, by omega⟩)
  | (refine ⟨by omega, by omega, by omega⟩)
  | (refine .inl ⟨by omega, by omega⟩)
  | (refine .inr ⟨by omega, by omega⟩)
  | (exact (show CPow _ _ from ⟨by decide, by decide, by omega⟩))
  | decide +kernel
  | (unfold CMulW; decide +kernel)
  | (exact wide_div (b := 64) (by omega) (by omega) (by decide) (by decide)))
local macro_rules | `(tactic| walk_at "rd1") => `(tactic| first
  | (with_reducible refine r_seq ?_)
  | (with_reducible refine r_asg ?_)
  | (with_reducible refine r_ret ?_)
  | (with_reducible refine r_if ?_)
  | (with_reducible refine r_gname ?_)
  | ((with_reducible refine' r_var ?hv ?_); (case hv => exact rfl))
  | (with_reducible refine r_c ?_)
  | (with_reducible refine r_op ?_)
  | (with_reducible refine r_I0 ?_)
  | ((with_reducible refine r_I ?hc ?_); (case hc => walk_at "cnd"))
  | (with_reducible refine r_test ?_)
  | (with_reducible refine r_tB ?_)
  | (with_reducible refine r_bl ?_)
  | (with_reducible refine r_not ?_)
  | (with_reducible refine r_and ?_)
  | (with_reducible refine r_or ?_)
  | (with_reducible refine r_ifE ?_)
  | (with_reducible refine r_notV ?_)
  | (with_reducible refine r_andV ?_)
  | (with_reducible refine r_orV ?_)
  | (with_reducible refine r_chain ?_)
  | (with_reducible refine r_cb ?_)
  | (with_reducible refine r_call ?_)
  | (with_reducible refine r_callN ?_)
  | (with_reducible refine r_nil ?_)
  | (with_reducible refine r_cons ?_)
  | ((with_reducible refine r_lst ?_))
  | ((with_reducible refine r_tup ?_))
  | ((with_reducible refine r_new ?_ ?_); (exact Nat.le_of_ble_eq_true rfl); (intro p hp))
  | (with_reducible refine r_rInt1 ?_)
  | (with_reducible refine r_rIntB ?_)
  | (with_reducible refine r_rAbs ?_)
  | (with_reducible refine r_rMin2 ?_)
  | (with_reducible refine r_rMax2 ?_)
  | ((with_reducible refine r_rLenZ ?hz ?_); (case hz => first | assumption | exact Nat.le_of_ble_eq_true rfl | (refine Nat.le_trans ?_ (by decide : 100000 ≤ sizeLine); omega)))
  | ((with_reducible refine r_addZ ?hz ?_); (case hz => (refine Nat.le_trans ?_ (by decide : 100000 ≤ sizeLine); first | omega | (simp only [Str.length] at *; simp; omega))))
  | ((with_reducible refine r_mulZ ?hz ?h0 ?h1 ?_); (case hz => first | omega | exact Nat.le_of_ble_eq_true rfl); (case h0 => omega); (case h1 => omega))
  | ((with_reducible refine' r_rLenQ ?h1 ?_); (case h1 => first | (exact .inl (by assumption)) | (exact .inr (by assumption)) | (exact .inl (SqL.of (by walk_at "lk"))) | (exact .inr (SqT.of (by walk_at "lk")))))
  | ((with_reducible refine r_eq ?hs ?_); (case hs => exact rfl))
  | ((with_reducible refine r_ne ?hs ?_); (case hs => exact rfl))
  | (with_reducible refine r_inC ?_)
  | ((with_reducible refine' r_cat ?h1 ?h2 ?h3 ?_); (case h1 => walk_at "lk"); (case h2 => walk_at "lk"); (case h3 => exact Nat.le_of_ble_eq_true rfl); (intro p hp))
  | ((with_reducible refine' r_rep ?h1 ?h2 ?h3 ?h4 ?_); (case h1 => walk_at "lk"); (case h2 => omega); (case h3 => omega); (case h4 => exact Nat.le_of_ble_eq_true rfl); (intro p hp))
  | ((with_reducible refine' r_append ?h1 ?h2 ?_); (case h1 => walk_at "lk"); (case h2 => first | exact (show _ + 1 ≤ sizeLine from Nat.le_of_ble_eq_true rfl) | exact Nat.lt_of_le_of_lt (by omega : _ ≤ 100000) (by decide)))
  | (with_reducible refine r_bm ?_)
  | ((with_reducible refine' r_tyL ?h1 ?_); (case h1 => walk_at "lk"))
  | ((with_reducible refine' r_ixL ?h1 ?h2 ?_); (case h1 => first | assumption | exact SqL.of (by walk_at "lk")); (case h2 => exact rfl))
  | ((with_reducible refine' r_ixT ?h1 ?h2 ?_); (case h1 => first | assumption | exact SqT.of (by walk_at "lk")); (case h2 => exact rfl))
  | (with_reducible refine r_gsub ?_)
  | ((with_reducible refine' r_setL ?h1 ?h2 ?_); (case h1 => walk_at "lk"); (case h2 => exact rfl))
  | (with_reducible refine r_un ?_)
  | (with_reducible refine r_neg ?_)
  | (with_reducible refine r_iteT ?_)
  | (with_reducible refine r_iteNT ?_)
  | (with_reducible refine r_iteNF ?_)
  | (with_reducible refine r_iteF ?_)
  | (with_reducible refine r_next ?_)
  | (with_reducible refine r_drop ?_)
  | (with_reducible refine r_cont ?_)
  | (with_reducible refine r_brk ?_))
local macro_rules | `(tactic| walk_at "ty") => `(tactic| first
  | assumption
  | exact .base (.int _)
  | exact .base (.str _)
  | exact .base (.bl _)
  | exact .base .non
  | exact .byt _
  | exact .base (.lst (by walk_at "lk"))
  | exact .base (.tup (by walk_at "lk")))
local macro_rules | `(tactic| walk_at "rd2") => `(tactic| first
  | walk_at "rd1"
  | ((with_reducible refine' r_isi true ?ht ?hk ?_); (case ht => walk_at "ty"); (case hk => first | assumption | decide +kernel))
  | ((with_reducible refine' r_isi false ?ht ?hk ?_); (case ht => walk_at "ty"); (case hk => first | assumption | decide +kernel))
  | ((with_reducible refine' r_isiT2 true true ?hT ?ht ?hk ?hk2 ?_); (case hT => walk_at "lk"); (case ht => walk_at "ty"); (case hk => decide +kernel); (case hk2 => decide +kernel))
  | ((with_reducible refine' r_isiT2 true false ?hT ?ht ?hk ?hk2 ?_); (case hT => walk_at "lk"); (case ht => walk_at "ty"); (case hk => decide +kernel); (case hk2 => decide +kernel))
  | ((with_reducible refine' r_isiT2 false true ?hT ?ht ?hk ?hk2 ?_); (case hT => walk_at "lk"); (case ht => walk_at "ty"); (case hk => decide +kernel); (case hk2 => decide +kernel))
  | ((with_reducible refine' r_isiT2 false false ?hT ?ht ?hk ?hk2 ?_); (case hT => walk_at "lk"); (case ht => walk_at "ty"); (case hk => decide +kernel); (case hk2 => decide +kernel))
  | (with_reducible refine r_iteNT ?_)
  | ((show (if (!true) = true then _ else _)); refine r_iteNT ?_)
  | (with_reducible refine r_r1 ?_)
  | (with_reducible refine r_maks ?_)
  | (with_reducible refine r_sfld ?_)
  | ((with_reducible refine' r_sfldE ?h1 ?h2 ?h3 ?h4 ?_); (case h1 => walk_at "lk"); (case h2 => assumption); (case h3 => assumption); (case h4 => exact (show _ + 1 ≤ 1000 from Nat.le_of_ble_eq_true rfl)))
  | (with_reducible refine r_fld ?_)
  | (with_reducible refine r_join ?_)
  | (with_reducible refine r_jcons ?_)
  | (with_reducible refine r_jnil ?_)
  | ((with_reducible refine r_rLenY ?hz ?_); (case hz => first | assumption | (refine Nat.le_trans ?_ (by decide : 100000 ≤ sizeLine); omega)))
  | (with_reducible refine r_par ?_)
  | (with_reducible refine r_pair ?_)
  | (with_reducible refine r_par3 ?_)
  | (with_reducible refine r_trip ?_)
  | ((with_reducible refine' r_gtup ?h1 ?h2 ?_); (case h1 => first | assumption | exact SqT.of (by walk_at "lk")); (case h2 => exact rfl))
  | (with_reducible refine r_gcons ?_)
  | (with_reducible refine r_gnil ?_)
  | ((with_reducible refine' r_slL ?h1 ?_); (case h1 => first | assumption | exact SqL.of (by walk_at "lk")); (intro p hp))
  | (with_reducible refine r_iTup ?_)
  | ((with_reducible refine' r_tupE ?h1 ?_); (case h1 => first | assumption | exact SqT.of (by walk_at "lk")))
  | (with_reducible refine r_m1 ?_)
  | (with_reducible refine r_isZ ?_)
  | (with_reducible refine r_sl ?_)
  | (with_reducible refine r_noPart ?_)
  | (with_reducible refine r_part ?_)
  | (with_reducible refine r_partE ?_)
  | ((with_reducible refine r_slS ?hz ?_); (case hz => first | assumption | (refine Nat.le_trans ?_ (by decide : 100000 ≤ sizeLine); omega)))
  | ((with_reducible refine' r_inT ?h1 ?h2 ?h3 ?_); (case h1 => first | assumption | (exact SqT.of (by walk_at "lk"))); (case h2 => exact rfl); (case h3 => exact rfl))
  | ((with_reducible refine' r_inL ?h1 ?h2 ?h3 ?_); (case h1 => first | assumption | (exact SqL.of (by walk_at "lk"))); (case h2 => exact rfl); (case h3 => exact rfl))
  | (with_reducible refine r_lc ?_)
  | (with_reducible refine r_for ?_)
  | (with_reducible refine r_iStr ?_)
  | (with_reducible refine r_strE ?_)
  | (with_reducible refine r_iList ?_)
  | ((with_reducible refine' r_listE ?h1 ?_); (case h1 => first | assumption | exact SqL.of (by walk_at "lk")))
  | (with_reducible refine r_iRng1 ?_)
  | ((with_reducible refine' r_rngE ?h0 ?h1 ?_); (case h0 => first | omega | (split <;> omega)); (case h1 => first | omega | (split <;> omega))))
local macro_rules | `(tactic| walk_at "rd") => `(tactic| (repeat walk_at "rd2"))
local macro_rules | `(tactic| walk_at "st") => `(tactic| (repeat (first
  | (with_reducible refine r_gname ?_)
  | (with_reducible refine r_next ?_)
  | (with_reducible refine r_seq ?_)
  | (with_reducible refine r_asg ?_)
  | (with_reducible refine r_ret ?_)
  | (with_reducible refine r_for ?_)
  | (with_reducible refine r_iRng1 ?_)
  | (with_reducible refine r_iList ?_)
  | (with_reducible refine r_cons ?_)
  | (with_reducible refine r_par ?_)
  | (with_reducible refine r_par3 ?_))))
theorem at_one (x y : V) (r : List V) : atI (x :: y :: r) 1 = some y := by
  unfold atI ixN
  rw [if_pos (by decide), if_pos (by simp only [List.length_cons]; omega)]
  rfl
/-- the four of the end -/
def zms : List Mem := [.file "a" 420 0 [0, 0], .sparse "a" 420 0 2 [], .sparse "a" 420 0 2 [(0, [0, 0])], .dir "a" 420 0]
theorem zrow : ∀ i m, zms[i]? = some m → zms.map (fun x => decide (m = x)) = (List.range 4).map (fun k => decide (i = k)) := by
  intro i m h
  match i, h with
  | 0, h => cases h; decide +kernel
  | 1, h => cases h; decide +kernel
  | 2, h => cases h; decide +kernel
  | 3, h => cases h; decide +kernel
  | i + 4, h => simp [zms] at h
theorem dpa_bools {K : PySem.W.Frag} {H : Hp} : ∀ bs : List Bool, DpAll K H (bs.map V.bl) (bs.map PyData.bool)
  | [] => .nil
  | b :: r => .cons (.bl b) (dpa_bools r)
theorem bools_ok : ∀ bs : List Bool, PyData.canLayAll0 (bs.map PyData.bool) = true ∧ PyData.depthAll (bs.map PyData.bool) = 0 ∧ PyData.eqvAll (bs.map PyData.bool) (bs.map PyData.bool) = true
  | [] => by simp [PyData.canLayAll0, PyData.depthAll, PyData.eqvAll]
  | b :: r => by
    obtain ⟨h1, h2, h3⟩ := bools_ok r
    simp [PyData.canLayAll0, PyData.depthAll, PyData.canLay0, PyData.depth, PyData.eqvAll, PyData.eqv, h1, h2, h3]
theorem r_neB {K : PySem.W.Frag} {H : Hp} {Q : VK} {a b : Addr} {bs : List Bool} (ha : H a = some (.lst (bs.map V.bl))) (hb : H b = some (.lst (bs.map V.bl))) (h : Q (.bl false) H) : rNeD K (.ref a) (.ref b) H Q := by
  obtain ⟨h1, h2, h3⟩ := bools_ok bs
  exact r_neS (dp_one ha (dpa_bools bs)) (dp_one hb (dpa_bools bs)) (by simp [SeqAt.shaped, PyData.canLay0, PyData.depth, h1, h2]) (by simp [PyData.eqv, h3]) h
theorem zok : ∀ m ∈ zms, m.Ok := by
  have st : stampOk "a" 420 0 := ⟨by decide +kernel, by decide, by decide, by decide, by decide⟩
  intro m hm
  simp only [zms, List.mem_cons, List.not_mem_nil, or_false] at hm
  rcases hm with rfl | rfl | rfl | rfl
  · exact ⟨st, by decide, by decide +kernel⟩
  · exact ⟨st, by decide, by decide, by decide, True.intro, fun _ h => nomatch h⟩
  · refine ⟨st, by decide, by decide, by decide, ⟨by decide, by decide, by decide, True.intro⟩, ?_⟩
    intro s hs
    rw [List.mem_singleton] at hs
    rw [hs]
    decide +kernel
  · exact st
theorem zip_all {α β : Type} {R : α → β → Prop} {S : α → β → Prop} : ∀ {xs : List α} {ys : List β}, Paired R xs ys → (∀ a b, b ∈ ys → R a b → S a b) → ∀ {a : α} {b : β}, (a, b) ∈ xs.zip ys → S a b
  | _, _, .nil, _, a, b, h => by simp at h
  | _, _, .cons r t, f, a, b, h => by
    rw [List.zip_cons_cons, List.mem_cons] at h
    rcases h with h | h
    · cases h
      exact f _ _ List.mem_cons_self r
    · exact zip_all t (fun a b hb => f a b (List.mem_cons_of_mem _ hb)) h
theorem r_then {ta : TE} {k : V → Hp → VK → Prop} {σ : L2.St} {H : Hp} {Q : VK} (h : ta σ H fun x H1 => k x H1 Q) : tThen ta k σ H Q := h
theorem Mem.At.list {H : Hp} {p : Addr} {m : Mem} (h : m.At H p) : ∃ k n r, H p = some (.lst (k :: .str n :: r)) := by
  cases m with
  | file n b t ns => obtain ⟨d, h1, _⟩ := h; exact ⟨_, _, _, h1⟩
  | sparse n b t z sp => obtain ⟨d, h1, _⟩ := h; exact ⟨_, _, _, h1⟩
  | dir n b t => exact ⟨_, _, _, h⟩
  | sym n b t g => exact ⟨_, _, _, h⟩
  | lnk n b t g => exact ⟨_, _, _, h⟩
theorem r_iEnum {K : PySem.W.Frag} {ta : TA} {σ : L2.St} {H : Hp} {R : It → Hp → Prop} (h : ta σ H fun vs H1 => ∃ a xs, vs = [.ref a] ∧ SqL K H1 a xs ∧ R (Ite K a) H1) : iEnum K ta σ H R := h
section
variable {P : Program} {w : World} {K : PySem.W.Frag} {mg : Str → Option Value} {base : Heap}
def spLaw (K : PySem.W.Frag) : Sp := fun vs H Q _ => ∃ (a : Addr) (ns : List Int), vs = [.ref a] ∧ SqL K H a (ns.map V.int) ∧ ns.length ≤ 63 ∧ ∀ H', Q (.bl true) H'
theorem same_but {H0 H H' : Hp} {p : Addr} (s : Same H0 H) (hp : H0 p = none) (b : But p H H') : Same H0 H' := fun a o e => b a o (ne_of_none e hp) (s a o e)
theorem stA (b t : Int) (h0 : 0 ≤ b) (h1 : b ≤ 4095) (h2 : 0 ≤ t) (h3 : t ≤ 8589934591) : stampOk "a" b t := ⟨by decide +kernel, h0, h1, h2, h3⟩
theorem r_data {K : PySem.W.Frag} {H : Hp} {Q : VK} {p q : Addr} {m m' : Mem} (o : m.Ok) (o' : m'.Ok) (h : m.At H p) (h' : m'.At H q) (k : Q (.bl (decide (m = m'))) H) : rEqD K (.ref p) (.ref q) H Q :=
  ⟨m.data, m'.data, Mem.dp h, Mem.dp h', Mem.shp o, Mem.shp o', by rw [eqv_data]; exact k⟩
theorem ok_law {f aM : Addr} {fd : FuncData} {c : Cs} (F : Fun K "law" "law" s_law f fd) (m1 : mg "range" = none) (m2 : mg "max" = none) (m3 : mg "min" = none) (m4 : mg "len" = none) (m5 : mg "isinstance" = none) (m6 : mg "repr" = none) (m7 : mg "tuple" = none) (m8 : mg "enumerate" = none)
    (m_Member : mg "Member" = some (.ref aM)) (EA : EqAll P w K mg base c aM)
    (rF : MethT P w K mg base 2 c.F "__repr__" (spRepr c.F "File")) (rS : MethT P w K mg base 2 c.S "__repr__" (spRepr c.S "Sparse")) (rD : MethT P w K mg base 2 c.D "__repr__" (spRepr c.D "Directory")) (rY : MethT P w K mg base 2 c.Y "__repr__" (spRepr c.Y "Symlink")) (rL : MethT P w K mg base 2 c.L "__repr__" (spRepr c.L "Link"))
    (c_source : CalT P w K mg base 2 "_law_source" (spSource K)) (c_rmem : CalT P w K mg base 5 "_law_random_member" spRMem) (c_near : CalT P w K mg base 5 "_law_near" spNear) (c_made : CalT P w K mg base 8 "_law_made" (spMade c)) (c_blob : CalT P w K mg base 4 "blob" spBlob)
    (mk_FileD : MakS P w K mg base 5 "File" c.F [] (fun vs zs H Q => zs = [] ∧ ∀ E, spFileI c.F (vs ++ [.int 420, .int 0]) H Q E)) (mk_DirM : MakS P w K mg base 5 "Directory" c.D ["mode"] (fun vs zs H Q => vs.length = 2 ∧ ∀ E, spDirI c.D (vs ++ zs ++ [.int 0]) H Q E))
    (mk_SparseD : MakS P w K mg base 6 "Sparse" c.S [] (fun vs zs H Q => zs = [] ∧ spSpa c.S 420 0 vs H Q)) : FnG P w K mg base 9 f fd ["_law_script"] (spLaw K) := by
  refine Fun.okG (k := 8) F sc_law (fun vs H Q E h => ?_) (fun cdv A outer s H vs Q E hr gd0 h => ?_)
  · obtain ⟨a, ns, rfl, _⟩ := h
    rfl
  · obtain ⟨a, ns, rfl, hS, hz, q⟩ := h
    have hu := hu_of hr
    have nd := sc_law.nd
    have hml : (ns.map V.int).length = ns.length := List.length_map ..
    have hu64 : (A.deeper (envOfC "law" (defScope s_law) s.heap.objs.size f cdv)).units + 64 < cLine := by have := hr.un; omega
    refine ⟨_, (pss_cons (ps_for PassesOwn.never rfl (pi_range1 (by rfl) (by assumption) (pa_cons (pe_callB call_rMax2 (by rfl) (by assumption) (by decide +kernel) (pa_cons pe_int (pa_cons (pe_callB call_rMin2 (by rfl) (by assumption) (by decide +kernel) (pa_cons pe_int (pa_cons (pe_callB (call_lenK K) (by rfl) (by assumption) (by decide +kernel) (pa_cons (pv 0) pa_nil)) pa_nil))) pa_nil))) pa_nil)) (pg_name (i := 1) nd rfl (Or.inl rfl))
        (pss_cons (ps_set (i := 2) nd rfl (Or.inl rfl) (pe_cc c_source hr (by omega) (by rfl) (pa_cons (pv 0) (pa_cons (pv 1) pa_nil))))
      (pss_one (ps_for PassesOwn.never rfl (pi_range1 (by rfl) (by assumption) (pa_cons pe_int pa_nil)) (pg_name (i := 3) nd rfl (Or.inl rfl))
        (pss_cons (ps_set (i := 4) nd rfl (Or.inr rfl) (pe_cc c_rmem hr (by omega) (by rfl) (pa_cons (pv 2) pa_nil)))
      (pss_cons (ps_set (i := 5) nd rfl (Or.inl rfl) (pe_cc c_near hr (by omega) (by rfl) (pa_cons (pv 2) (pa_cons (pv 4) pa_nil))))
      (pss_cons (ps_par (i := 6) (j := 7) rfl nd rfl rfl (by decide) rfl rfl (pa_cons (pe_cc c_made hr (by omega) (by rfl) (pa_cons (pv 4) pa_nil)) (pa_cons (pe_cc c_made hr (by omega) (by rfl) (pa_cons (pv 5) pa_nil)) pa_nil)) (by rfl))
      (pss_cons (ps_if (PW.pt (pw_or (pt_cmpR op_ne (pe_cmpR (op_ownEqK (k := 2) K (hr.mono (by omega))) (pv 6) (pv 7) (nomark _)) (pe_cmpR (op_eqD hu64) (pv 4) (pv 5) (nomark _)) (nomark _)) (pw_or (pt_cmpR op_eq (pe_cmpR (op_ownNeK (k := 2) K (hr.mono (by omega)) hu) (pv 7) (pv 6) (nomark _)) (pe_cmpR (op_eqD hu64) (pv 4) (pv 5) (nomark _)) (nomark _)) (pw_or1 (pt_cmpR (op_ownNeK (k := 2) K (hr.mono (by omega)) hu) (pv 6) (pe_cc c_made hr (by omega) (by rfl) (pa_cons (pv 4) pa_nil)) (nomark _))))))
        (pss_one (ps_ret pe_bl))
        pss_nil)
      (pss_one (ps_if (PW.pt (pw_or (pt_cmpR (op_ownInK (k := 2) K (hr.mono (by omega))) (pv 6) (pe_lst (pa_cons pe_non (pa_cons (pv 4) (pa_cons (pe_tupleOf (by rfl) (by assumption) (pv 4)) (pa_cons (pe_ix (ix_listK K) (pv 4) pe_int (fun _ _ => rfl)) (pa_cons (pe_callB (call_or2 (call_rep rF hr (by omega)) (call_or2 (call_rep rS hr (by omega)) (call_or2 (call_rep rD hr (by omega)) (call_or2 (call_rep rY hr (by omega)) (call_rep rL hr (by omega)))))) (by rfl) (by assumption) (by decide +kernel) (pa_cons (pv 6) pa_nil)) pa_nil)))))) (by rfl)) (pw_or1 (pt_not (pt_val (pe_callB (call_isiK1 K) (by rfl) (by assumption) (by decide +kernel) (pa_cons (pv 7) (pa_cons (pe_glob (v := .ref aM) (by rfl) m_Member (by first | exact rfl | exact ⟨_, rfl⟩)) pa_nil))))))))
        (pss_one (ps_ret pe_bl))
        pss_nil))))))))))
      (pss_cons (ps_set (i := 8) nd rfl (Or.inl rfl) (pe_lst (pa_cons (pe_mks mk_FileD hr (by omega) (by rfl) (pa_cons pe_str (pa_cons (pe_cc c_blob hr (by omega) (by rfl) (pa_cons (pe_lst (pa_cons pe_int (pa_cons pe_int pa_nil))) pa_nil)) pa_nil)) pk_nil) (pa_cons (pe_mks mk_SparseD hr (by omega) (by rfl) (pa_cons pe_str (pa_cons pe_int pa_nil)) pk_nil) (pa_cons (pe_mks mk_SparseD hr (by omega) (by rfl) (pa_cons pe_str (pa_cons pe_int (pa_cons (pe_tup (pa_cons pe_int (pa_cons (pe_cc c_blob hr (by omega) (by rfl) (pa_cons (pe_lst (pa_cons pe_int (pa_cons pe_int pa_nil))) pa_nil)) pa_nil))) pa_nil))) pk_nil) (pa_cons (pe_mks mk_DirM hr (by omega) (by rfl) (pa_cons pe_str pa_nil) (pk_cons pe_int pk_nil)) pa_nil))))))
      (pss_cons (ps_for PassesOwn.never rfl (pi_enum (by rfl) (by assumption) (pa_cons (pv 8) pa_nil)) (pg_tupK K (pg_tup rfl (pgs_cons (pg_name (i := 9) nd rfl (Or.inr rfl)) (pgs_cons (pg_name (i := 4) nd rfl (Or.inr rfl)) pgs_nil))))
        (pss_one (ps_if (pt_cmpR (op_neD hu64) (pe_lc (own := [("_law_other", 5)]) (g := (gName 5)) (tt := tYes) rfl nd (pi_list (pv 8)) (blkOk_by (N := N_law) (sc := defScope s_law) (by decide +kernel)) (fun _ _ _ _ _ => (pg_name (i := 5) nd rfl (Or.inl rfl))) (fun _ _ _ _ _ => pts_nil) (fun _ _ _ _ _ => (pe_cmpR (op_ownEqK (k := 2) K (hr.mono (by omega))) (pv 4) (pv 5) (nomark _)))) (pe_lc (own := [("_law_place", 10)]) (g := (gName 10)) (tt := tYes) rfl nd (pi_range1 (by rfl) (by assumption) (pa_cons pe_int pa_nil)) (blkOk_by (N := N_law) (sc := defScope s_law) (by decide +kernel)) (fun _ _ _ _ _ => (pg_name (i := 10) nd rfl (Or.inl rfl))) (fun _ _ _ _ _ => pts_nil) (fun _ _ _ _ _ => (pe_cmpR op_eq (pv 9) (pv 10) (nomark _)))) (nomark _))
        (pss_one (ps_ret pe_bl))
        pss_nil)))
      (pss_one (ps_ret pe_bl))))), ?_⟩
    walk_at "rd"
    refine for_it (walk_range (lo := 0) (n := _)) (fun i σ H' => ∃ v1 v2 v3 v4 v5 v6 v7 v8 v9 v10 : Option V, σ = [some (.ref a), v1, v2, v3, v4, v5, v6, v7, v8, v9, v10] ∧ Same H H') ?_ (fun _ _ _ _ _ => True.intro) ?_ ?_
    · skip
      exact ⟨_, _, _, _, _, _, _, _, _, _, rfl, Same.refl _⟩
    · rintro i x σ Hc H' hi ⟨v1, v2, v3, v4, v5, v6, v7, v8, v9, v10, rfl, eH⟩ ⟨rfl, hx⟩
      simp only [Int.zero_add] at hx
      subst hx
      have hi4 : i ≤ 63 := by
        revert hi
        split
        · split <;> omega
        · omega
      walk_at "rd"
      refine sp_source (eH.seq hS) hz hi4 (fun p H1 hp e1 hs1 => ?_)
      have hp0 : H p = none := eH.free hp
      walk_at "rd"
      refine for_it (walk_range (lo := 0) (n := _)) (fun j σ H' => ∃ v3 v4 v5 v6 v7 v8 v9 v10 : Option V, σ = [some (.ref a), some (.int (i : Int)), some (.ref p), v3, v4, v5, v6, v7, v8, v9, v10] ∧ Src H' p ∧ Same H H') ?_ (fun _ _ _ _ _ => True.intro) ?_ ?_
      · exact ⟨_, _, _, _, _, _, _, _, rfl, hs1, eH.trans e1⟩
      · rintro j x σ Hc H' hj ⟨v3, v4, v5, v6, v7, v8, v9, v10, rfl, hs1, eH1⟩ ⟨rfl, hx⟩
        subst hx
        walk_at "rd"
        refine sp_rmem hs1 (fun g m H2 hg gat gok gsm hs2 hb2 => ?_)
        have eH2 := same_but eH1 hp0 hb2
        walk_at "rd"
        refine sp_near hs2 gat gok gsm (fun g2 n H3 gat2 gok2 hs3 hb3 => ?_)
        have eH3 := same_but eH2 hp0 hb3
        have gat3 := gat.but hb3
        walk_at "rd"
        refine sp_made gat3.at gok (fun y1 H4 e4 hy1 gin1 => ?_)
        walk_at "rd"
        refine sp_made (gat2.at.same e4) gok2 (fun y2 H5 e5 hy2 gin2 => ?_)
        have gx1 := gin1.same e5
        have at1 := gat3.at.same (e4.trans e5)
        have at2 := gat2.at.same (e4.trans e5)
        walk_at "rd"
        refine own_eq EA gok gok2 gx1 gin2 ?_
        walk_at "rd"
        refine r_data gok gok2 at1 at2 ?_
        walk_at "rd"
        rw [show (!decide (V.bl (id (decide (m = n))) = V.bl (decide (m = n)))) = false from by simp]
        walk_at "rd"
        refine own_eq EA gok2 gok gin2 gx1 ?_
        walk_at "rd"
        refine r_data gok gok2 at1 at2 ?_
        walk_at "rd"
        refine r_iteD (fun h => ?_) (fun _ => ?_)
        · exfalso
          injection h with h
          by_cases e : m = n
          · subst e
            simp at h
          · rw [decide_eq_false e, decide_eq_false (fun x => e x.symm)] at h
            cases h
        walk_at "rd"
        refine sp_made at1 gok (fun y3 H6 e6 hy3 gin3 => ?_)
        refine own_eq EA gok gok (gx1.same e6) gin3 ?_
        rw [decide_eq_true rfl]
        walk_at "rd"
        have gx6 := gx1.same e6
        have at6 := at1.same e6
        have gy6 := gin2.same e6
        have eH6 := eH3.trans ((e4.trans e5).trans e6)
        have hs6 := hs3.same ((e4.trans e5).trans e6)
        obtain ⟨k0, n0, r0, hg0⟩ := at6.list
        refine r_then ?_
        walk_at "rd"
        refine .inl ⟨g, _, rfl, SqL.of hg0, fun T hT => ?_⟩
        have hgT : SqL K (upd H6 T (.tup (k0 :: .str n0 :: r0))) g (k0 :: .str n0 :: r0) := SqL.of (upd_old hT hg0)
        walk_at "rd"
        refine r_ixL hgT (at_one k0 (.str n0) r0) ?_
        walk_at "rd"
        refine own_rep gok (gx6.same (same_new hT)) (fun z => ?_)
        walk_at "rd"
        rename_i L hL
        refine own_in EA ((gx6.same (same_new hT)).same (same_new hL)) upd_same ?_ ?_
        · intro z hz
          simp only [List.mem_cons, List.not_mem_nil, or_false] at hz
          rcases hz with rfl | rfl | rfl | rfl | rfl
          · exact .inl rfl
          · exact .inr (.inr ⟨g, _, rfl, .inl (upd_old hL (upd_old hT hg0))⟩)
          · exact .inr (.inr ⟨T, _, rfl, .inr (upd_old hL upd_same)⟩)
          · exact .inr (.inl ⟨_, rfl⟩)
          · exact .inr (.inl ⟨_, rfl⟩)
        have sTL := (same_new (o := .tup (k0 :: .str n0 :: r0)) hT).trans (same_new (o := .lst [.non, .ref g, .ref T, .str n0, .str z]) hL)
        walk_at "rd"
        refine own_isi EA (gy6.same sTL) ?_
        walk_at "rd"
        exact ⟨_, _, _, _, _, _, _, _, rfl, hs6.same sTL, eH6.trans sTL⟩
      · rintro σ Hc ⟨v3, v4, v5, v6, v7, v8, v9, v10, rfl, hs1, eH1⟩
        walk_at "rd"
        exact ⟨_, _, _, _, _, _, _, _, _, _, rfl, eH1⟩
    · rintro σ Hc ⟨v1, v2, v3, v4, v5, v6, v7, v8, v9, v10, rfl, eH⟩
      walk_at "rd"
      rename_i L0 hL0
      refine sp_blob (ns := [0, 0]) upd_same (by decide) (by decide +kernel) (fun H1 e1 => ?_)
      walk_at "rd"
      refine ⟨rfl, fun xF dF hxF hdF neF => ⟨rfl, fun E => ?_⟩⟩
      refine ⟨xF, dF, "a", byteArr [0, 0], 420, 0, rfl, upd_same, stA _ _ (by decide) (by decide) (by decide) (by decide), by decide, fun H2 fr2 gF => ⟨rfl, ?_⟩⟩
      have mF : (Mem.file "a" 420 0 [0, 0]).Ins c H2 xF := ⟨_, gF⟩
      clear fr2 gF
      walk_at "rd"
      refine ⟨rfl, fun xS dS hxS hdS neS => ⟨rfl, ?_⟩⟩
      refine ⟨xS, dS, "a", 2, [], [], rfl, upd_same, stA _ _ (by decide) (by decide) (by decide) (by decide), .nil, True.intro, by decide, by decide, by decide, fun p H3 hp fr3 gp gS => ⟨rfl, ?_⟩⟩
      have mS : (Mem.sparse "a" 420 0 2 []).Ins c H3 xS := ⟨_, p, gS, [], gp, .nil⟩
      replace mF := mF.same (frame_same hxS hdS fr3)
      clear fr3 gp gS
      walk_at "rd"
      rename_i L1 hL1
      refine sp_blob (ns := [0, 0]) upd_same (by decide) (by decide +kernel) (fun H4 e4 => ?_)
      replace mF := mF.same ((same_new hL1).trans e4)
      replace mS := mS.same ((same_new hL1).trans e4)
      walk_at "rd"
      rename_i T hT
      refine ⟨rfl, fun xT dT hxT hdT neT => ⟨rfl, ?_⟩⟩
      replace mF := mF.same (same_new (o := .tup [.int 0, .byt (byteArr [0, 0])]) hT)
      replace mS := mS.same (same_new (o := .tup [.int 0, .byt (byteArr [0, 0])]) hT)
      have hTa : (upd (upd (upd H4 T (.tup [.int 0, .byt (byteArr [0, 0])])) dT (.own xT)) xT (.ins c.S dT [])) T = some (.tup [.int 0, .byt (byteArr [0, 0])]) := by
        have nx := ne_of_none (upd_same (a := T) (o := HO.tup [.int 0, .byt (byteArr [0, 0])]) (H := H4)) hxT
        have ny := ne_of_none (upd_same (a := T) (o := HO.tup [.int 0, .byt (byteArr [0, 0])]) (H := H4)) hdT
        rw [upd_ne nx, upd_ne ny, upd_same]
      refine ⟨xT, dT, "a", 2, [T], [(0, byteArr [0, 0])], rfl, upd_same, stA _ _ (by decide) (by decide) (by decide) (by decide), .cons hTa .nil, ⟨by decide, by decide, by decide, True.intro⟩, by decide, by decide, by decide, fun p2 H5 hp2 fr5 gp2 gT => ⟨rfl, ?_⟩⟩
      have nTx : T ≠ xT := ne_of_none (upd_same (a := T) (o := HO.tup [.int 0, .byt (byteArr [0, 0])]) (H := H4)) hxT
      have mT : (Mem.sparse "a" 420 0 2 [(0, [0, 0])]).Ins c H5 xT := ⟨_, p2, gT, [T], gp2, .cons (fr5 _ _ nTx hTa) .nil⟩
      replace mF := mF.same (frame_same hxT hdT fr5)
      replace mS := mS.same (frame_same hxT hdT fr5)
      clear fr5 gp2 gT hTa
      walk_at "rd"
      refine ⟨rfl, fun xD dD hxD hdD neD => ⟨rfl, fun E => ?_⟩⟩
      refine ⟨xD, dD, "a", 420, 0, rfl, upd_same, stA _ _ (by decide) (by decide) (by decide) (by decide), fun H6 fr6 gD => ⟨rfl, ?_⟩⟩
      have mD : (Mem.dir "a" 420 0).Ins c H6 xD := ⟨_, gD⟩
      replace mF := mF.same (frame_same hxD hdD fr6)
      replace mS := mS.same (frame_same hxD hdD fr6)
      replace mT := mT.same (frame_same hxD hdD fr6)
      clear fr6 gD
      walk_at "rd"
      rename_i LZ hLZ
      have allM : Paired (fun (x : Addr) (m : Mem) => m.Ins c (upd H6 LZ (.lst [.ref xF, .ref xS, .ref xT, .ref xD])) x) [xF, xS, xT, xD] zms :=
        .cons (mF.same (same_new hLZ)) (.cons (mS.same (same_new hLZ)) (.cons (mT.same (same_new hLZ)) (.cons (mD.same (same_new hLZ)) .nil)))
      have hl1 : (upd H6 LZ (.lst [.ref xF, .ref xS, .ref xT, .ref xD])) LZ = some (.lst ([xF, xS, xT, xD].map V.ref)) := upd_same
      generalize (upd H6 LZ (.lst [.ref xF, .ref xS, .ref xT, .ref xD])) = H7 at *
      refine r_iEnum ?_
      walk_at "rd"
      refine ⟨LZ, _, rfl, SqL.of hl1, ?_⟩
      refine for_it (walk_enum (xs := [xF, xS, xT, xD].map V.ref)) (fun j σ H' => ∃ v1 v2 v3 v4 v5 v6 v7 v9 v10 : Option V, σ = [some (.ref a), v1, v2, v3, v4, v5, v6, v7, some (.ref LZ), v9, v10] ∧ Same H7 H') ?_ (fun j σ H' _ ⟨_, _, _, _, _, _, _, _, _, _, e⟩ => SqL.of (e _ _ hl1)) ?_ ?_
      · exact ⟨_, _, _, _, _, _, _, _, _, rfl, Same.refl _⟩
      · rintro j x σ Hc2 H' hj ⟨v1, v2, v3, v4, v5, v6, v7, v9, v10, rfl, e7⟩ ⟨T2, x1, y1, rfl, hT2, rfl, hx1, hy1⟩
        cases Option.some.inj hx1
        replace hy1 : ([xF, xS, xT, xD].map V.ref)[j]? = some y1 := hy1
        rw [List.getElem?_map] at hy1
        obtain ⟨qa, hqa, rfl⟩ : ∃ qa, [xF, xS, xT, xD][j]? = some qa ∧ V.ref qa = y1 := by
          cases e : [xF, xS, xT, xD][j]? with
          | none => rw [e] at hy1; cases hy1
          | some qa => rw [e] at hy1; exact ⟨qa, rfl, Option.some.inj hy1⟩
        obtain ⟨m, hm, hin⟩ := paired_at allM hqa
        have hmo : m.Ok := zok m (List.mem_of_getElem? hm)
        have zr := zrow j m hm
        have e8 : Same H7 (upd Hc2 T2 (.tup [.int (j : Int), .ref qa])) := e7.trans (same_new hT2)
        have hTl : (upd Hc2 T2 (.tup [.int (j : Int), .ref qa])) T2 = some (.tup [.int (j : Int), .ref qa]) := upd_same
        generalize (upd Hc2 T2 (.tup [.int (j : Int), .ref qa])) = H8 at *
        have hl8 := e8 _ _ hl1
        walk_at "rd"
        intro D hD
        refine lc_map (cs := [xF, xS, xT, xD].zip zms) (enc := fun x => V.ref x.1) (f := fun x => V.bl (decide (m = x.2))) walk_list hD (show 4 < sizeLine from Nat.lt_of_lt_of_le (by decide : 4 < 100000) (by decide)) (fun H' e => SqL.of (e _ _ hl8)) (fun x => rfl) ?_ ?_
        · rintro ⟨y, n⟩ hy H9 e9 Q2 hQ2
          have hno : n.Ok ∧ n.Ins c H7 y := zip_all allM (S := fun a m => m.Ok ∧ m.Ins c H7 a) (fun a m h ha => ⟨zok m h, ha⟩) hy
          walk_at "rd"
          refine own_eq EA hmo hno.1 ((hin.same e8).same e9) ((hno.2.same e8).same e9) ?_
          exact hQ2 _ (Same.refl _)
        · intro H9 e9 hb
          have e9' : Same H8 H9 := e9
          walk_at "rd"
          intro D2 hD2
          refine lc_map (cs := List.range 4) (enc := fun (i : Nat) => V.int (i : Int)) (f := fun (i : Nat) => V.bl (decide (j = i))) walk_rangeN hD2 (by decide) (fun _ _ => True.intro) (fun _ => rfl) ?_ ?_
          · intro k hk H10 e10 Q2 hQ2
            walk_at "rd"
            rw [show decide (V.int (j : Int) = V.int (k : Int)) = decide (j = k) by rw [Bool.eq_iff_iff]; simp; omega]
            exact hQ2 _ (Same.refl _)
          · intro H10 e10 hb2
            have e10' : Same H9 H10 := e10
            walk_at "rd"
            have g1 := e10 _ _ hb
            have z1 : ([xF, xS, xT, xD].zip zms).map (fun x => V.bl (decide (m = x.2))) = (zms.map (fun x => decide (m = x))).map V.bl := rfl
            have z2 : (List.range 4).map (fun (i : Nat) => V.bl (decide (j = i))) = ((List.range 4).map (fun (i : Nat) => decide (j = i))).map V.bl := rfl
            rw [z1, zr] at g1
            rw [z2] at hb2
            refine r_neB g1 hb2 ?_
            walk_at "rd"
            exact ⟨_, _, _, _, _, _, _, _, _, rfl, (e8.trans e9').trans e10'⟩
      · rintro σ2 Hc2 ⟨v1, v2, v3, v4, v5, v6, v7, v9, v10, rfl, e7⟩
        walk_at "rd"
        exact q _
end
end Th
namespace Th
open PySem PySem.Spec PyProof.Rows L2
local macro_rules | `(tactic| walk_at "lk") => `(tactic| first
  | assumption
  | exact upd_same
  | (refine upd_old (by assumption) ?_; walk_at "lk")
  | (refine upd_diff (by assumption) ?_; walk_at "lk")
  | (refine upd_diff (Ne.symm (by assumption)) ?_; walk_at "lk"))
local macro_rules | `(tactic| walk_at "cnd") => `(tactic| first
  | omega
  | (refine ⟨by omega, by omega⟩)
  | (refine ⟨by omega, by omega, by omega⟩)
  | (refine .inl ⟨by omega, by omega⟩)
  | (refine .inr ⟨by omega, by omega⟩)
  | (exact (show CPow _ _ from ⟨by decide, by decide, by omega⟩))
  | decide +kernel
  | (unfold CMulW; decide +kernel)
  | (exact wide_div (b := 64) (by omega) (by omega) (by decide) (by decide)))
local macro_rules | `(tactic| walk_at "rd1") => `(tactic| first
  | (with_reducible refine r_seq ?_)
  | (with_reducible refine r_asg ?_)
  | (with_reducible refine r_ret ?_)
  | (with_reducible refine r_if ?_)
  | (with_reducible refine r_gname ?_)
  | ((with_reducible refine' r_var ?hv ?_); (case hv => exact rfl))
  | (with_reducible refine r_c ?_)
  | (with_reducible refine r_op ?_)
  | (with_reducible refine r_I0 ?_)
  | ((with_reducible refine r_I ?hc ?_); (case hc => walk_at "cnd"))
  | (with_reducible refine r_test ?_)
  | (with_reducible refine r_tB ?_)
  | (with_reducible refine r_bl ?_)
  | (with_reducible refine r_not ?_)
  | (with_reducible refine r_and ?_)
  | (with_reducible refine r_or ?_)
  | (with_reducible refine r_ifE ?_)
  | (with_reducible refine r_notV ?_)
  | (with_reducible refine r_andV ?_)
  | (with_reducible refine r_orV ?_)
  | (with_reducible refine r_chain ?_)
  | (with_reducible refine r_cb ?_)
  | (with_reducible refine r_call ?_)
  | (with_reducible refine r_callN ?_)
  | (with_reducible refine r_nil ?_)
  | (with_reducible refine r_cons ?_)
  | ((with_reducible refine r_lst ?_))
  | ((with_reducible refine r_tup ?_))
  | ((with_reducible refine r_new ?_ ?_); (exact Nat.le_of_ble_eq_true rfl); (intro p hp))
  | (with_reducible refine r_rInt1 ?_)
  | (with_reducible refine r_rIntB ?_)
  | (with_reducible refine r_rAbs ?_)
  | (with_reducible refine r_rMin2 ?_)
  | (with_reducible refine r_rMax2 ?_)
  | ((with_reducible refine r_rLenZ ?hz ?_); (case hz => first | assumption | exact Nat.le_of_ble_eq_true rfl | (refine Nat.le_trans ?_ (by decide : 100000 ≤ sizeLine); omega)))
  | ((with_reducible refine r_addZ ?hz ?_); (case hz => (refine Nat.le_trans ?_ (by decide : 100000 ≤ sizeLine); first | omega | (simp only [Str.length] at *; simp; omega))))
  | ((with_reducible refine r_mulZ ?hz ?h0 ?h1 ?_); (case hz => first | omega | exact Nat.le_of_ble_eq_true rfl); (case h0 => omega); (case h1 => omega))
  | ((with_reducible refine' r_rLenQ ?h1 ?_); (case h1 => first | (exact .inl (by assumption)) | (exact .inr (by assumption)) | (exact .inl (SqL.of (by walk_at "lk"))) | (exact .inr (SqT.of (by walk_at "lk")))))
  | ((with_reducible refine r_eq ?hs ?_); (case hs => exact rfl))
  | ((with_reducible refine r_ne ?hs ?_); (case hs => exact rfl))
  | (with_reducible refine r_inC ?_)
  | ((with_reducible refine' r_cat ?h1 ?h2 ?h3 ?_); (case h1 => walk_at "lk"); (case h2 => walk_at "lk"); (case h3 => exact Nat.le_of_ble_eq_true rfl); (intro p hp))
  | ((with_reducible refine' r_rep ?h1 ?h2 ?h3 ?h4 ?_); (case h1 => walk_at "lk"); (case h2 => omega); (case h3 => omega); (case h4 => exact Nat.le_of_ble_eq_true rfl); (intro p hp))
  | ((with_reducible refine' r_append ?h1 ?h2 ?_); (case h1 => walk_at "lk"); (case h2 => first | exact (show _ + 1 ≤ sizeLine from Nat.le_of_ble_eq_true rfl) | exact Nat.lt_of_le_of_lt (by omega : _ ≤ 100000) (by decide)))
  | (with_reducible refine r_bm ?_)
  | ((with_reducible refine' r_tyL ?h1 ?_); (case h1 => walk_at "lk"))
  | ((with_reducible refine' r_ixL ?h1 ?h2 ?_); (case h1 => first | assumption | exact SqL.of (by walk_at "lk")); (case h2 => exact rfl))
  | ((with_reducible refine' r_ixT ?h1 ?h2 ?_); (case h1 => first | assumption | exact SqT.of (by walk_at "lk")); (case h2 => exact rfl))
  | (with_reducible refine r_gsub ?_)
  | ((with_reducible refine' r_setL ?h1 ?h2 ?_); (case h1 => walk_at "lk"); (case h2 => exact rfl))
  | (with_reducible refine r_un ?_)
  | (with_reducible refine r_neg ?_)
  | (with_reducible refine r_iteT ?_)
  | (with_reducible refine r_iteNT ?_)
  | (with_reducible refine r_iteNF ?_)
  | (with_reducible refine r_iteF ?_)
  | (with_reducible refine r_next ?_)
  | (with_reducible refine r_drop ?_)
  | (with_reducible refine r_cont ?_)
  | (with_reducible refine r_brk ?_))
local macro_rules | `(tactic| walk_at "ty") => `(tactic| first
  | assumption
  | exact .base (.int _)
  | exact .base (.str _)
  | exact .base (.bl _)
  | exact .base .non
  | exact .byt _
  | exact .base (.lst (by walk_at "lk"))
  | exact .base (.tup (by walk_at "lk")))
local macro_rules | `(tactic| walk_at "rd2") => `(tactic| first
  | walk_at "rd1"
  | ((with_reducible refine' r_isi true ?ht ?hk ?_); (case ht => walk_at "ty"); (case hk => first | assumption | decide +kernel))
  | ((with_reducible refine' r_isi false ?ht ?hk ?_); (case ht => walk_at "ty"); (case hk => first | assumption | decide +kernel))
  | ((with_reducible refine' r_isiT2 true true ?hT ?ht ?hk ?hk2 ?_); (case hT => walk_at "lk"); (case ht => walk_at "ty"); (case hk => decide +kernel); (case hk2 => decide +kernel))
  | ((with_reducible refine' r_isiT2 true false ?hT ?ht ?hk ?hk2 ?_); (case hT => walk_at "lk"); (case ht => walk_at "ty"); (case hk => decide +kernel); (case hk2 => decide +kernel))
  | ((with_reducible refine' r_isiT2 false true ?hT ?ht ?hk ?hk2 ?_); (case hT => walk_at "lk"); (case ht => walk_at "ty"); (case hk => decide +kernel); (case hk2 => decide +kernel))
  | ((with_reducible refine' r_isiT2 false false ?hT ?ht ?hk ?hk2 ?_); (case hT => walk_at "lk"); (case ht => walk_at "ty"); (case hk => decide +kernel); (case hk2 => decide +kernel))
  | (with_reducible refine r_iteNT ?_)
  | ((show (if (!true) = true then _ else _)); refine r_iteNT ?_)
  | (with_reducible refine r_r1 ?_)
  | (with_reducible refine r_maks ?_)
  | (with_reducible refine r_sfld ?_)
  | ((with_reducible refine' r_sfldE ?h1 ?h2 ?h3 ?h4 ?_); (case h1 => walk_at "lk"); (case h2 => assumption); (case h3 => assumption); (case h4 => exact (show _ + 1 ≤ 1000 from Nat.le_of_ble_eq_true rfl)))
  | (with_reducible refine r_fld ?_)
  | (with_reducible refine r_join ?_)
  | (with_reducible refine r_jcons ?_)
  | (with_reducible refine r_jnil ?_)
  | ((with_reducible refine r_rLenY ?hz ?_); (case hz => first | assumption | (refine Nat.le_trans ?_ (by decide : 100000 ≤ sizeLine); omega)))
  | (with_reducible refine r_par ?_)
  | (with_reducible refine r_pair ?_)
  | (with_reducible refine r_par3 ?_)
  | (with_reducible refine r_trip ?_)
  | ((with_reducible refine' r_gtup ?h1 ?h2 ?_); (case h1 => first | assumption | exact SqT.of (by walk_at "lk")); (case h2 => exact rfl))
  | (with_reducible refine r_gcons ?_)
  | (with_reducible refine r_gnil ?_)
  | ((with_reducible refine' r_slL ?h1 ?_); (case h1 => first | assumption | exact SqL.of (by walk_at "lk")); (intro p hp))
  | (with_reducible refine r_iTup ?_)
  | ((with_reducible refine' r_tupE ?h1 ?_); (case h1 => first | assumption | exact SqT.of (by walk_at "lk")))
  | (with_reducible refine r_m1 ?_)
  | (with_reducible refine r_isZ ?_)
  | (with_reducible refine r_sl ?_)
  | (with_reducible refine r_noPart ?_)
  | (with_reducible refine r_part ?_)
  | (with_reducible refine r_partE ?_)
  | ((with_reducible refine r_slS ?hz ?_); (case hz => first | assumption | (refine Nat.le_trans ?_ (by decide : 100000 ≤ sizeLine); omega)))
  | ((with_reducible refine' r_inT ?h1 ?h2 ?h3 ?_); (case h1 => first | assumption | (exact SqT.of (by walk_at "lk"))); (case h2 => exact rfl); (case h3 => exact rfl))
  | ((with_reducible refine' r_inL ?h1 ?h2 ?h3 ?_); (case h1 => first | assumption | (exact SqL.of (by walk_at "lk"))); (case h2 => exact rfl); (case h3 => exact rfl))
  | (with_reducible refine r_lc ?_)
  | (with_reducible refine r_for ?_)
  | (with_reducible refine r_iStr ?_)
  | (with_reducible refine r_strE ?_)
  | (with_reducible refine r_iList ?_)
  | ((with_reducible refine' r_listE ?h1 ?_); (case h1 => first | assumption | exact SqL.of (by walk_at "lk")))
  | (with_reducible refine r_iRng1 ?_)
  | ((with_reducible refine' r_rngE ?h0 ?h1 ?_); (case h0 => first | omega | (split <;> omega)); (case h1 => first | omega | (split <;> omega))))
local macro_rules | `(tactic| walk_at "rd") => `(tactic| (repeat walk_at "rd2"))
local macro_rules | `(tactic| walk_at "st") => `(tactic| (repeat (first
  | (with_reducible refine r_gname ?_)
  | (with_reducible refine r_next ?_)
  | (with_reducible refine r_seq ?_)
  | (with_reducible refine r_asg ?_)
  | (with_reducible refine r_ret ?_)
  | (with_reducible refine r_for ?_)
  | (with_reducible refine r_iRng1 ?_)
  | (with_reducible refine r_iList ?_)
  | (with_reducible refine r_cons ?_)
  | (with_reducible refine r_par ?_)
  | (with_reducible refine r_par3 ?_))))
/-! ### what the top has written -/
structure DefF (K : PySem.W.Frag) (x : Str) (st : Stmt) (f : Addr) : Prop where
  ns : PySem.W.nsIn K mainGlobals x = some (some (.ref f))
  fn : ∃ (oc : Value) (od an : Option Addr) (kV doc pm cdv ct : Value) (osl : Array (Option Value)), K.lookup f = some ⟨oc, od, .func (PySem.W.fnOf x x (defArgs st) (defBody st) (defScope st) .none kV doc pm an cdv ct), osl⟩ ∧ PySem.W.codeIn K cdv x = true
  kp : PySem.W.keepIn K (.ref f) = true
theorem defF_mk {K : PySem.W.Frag} {x : Str} {st : Stmt} {f : Addr} {oc : Value} {od an : Option Addr} {kV doc pm cdv ct : Value} {osl : Array (Option Value)} (a : PySem.W.nsIn K mainGlobals x = some (some (.ref f)))
    (l : K.lookup f = some ⟨oc, od, .func (PySem.W.fnOf x x (defArgs st) (defBody st) (defScope st) .none kV doc pm an cdv ct), osl⟩) (c : PySem.W.codeIn K cdv x = true) (k : PySem.W.keepIn K (.ref f) = true) : DefF K x st f :=
  ⟨a, ⟨oc, od, an, kV, doc, pm, cdv, ct, osl, l, c⟩, k⟩
theorem DefF.fun_ {K : PySem.W.Frag} {x : Str} {st : Stmt} {f : Addr} (d : DefF K x st f) : ∃ fd, Fun K x x st f fd := by
  obtain ⟨oc, od, an, kV, doc, pm, cdv, ct, osl, l, c⟩ := d.fn
  exact ⟨_, fun_mk l c d.kp⟩
section
variable {P : Program} {w : World} {K : PySem.W.Frag} {mg : Str → Option Value} {base : Heap}
theorem cal_mk {h : Heap} {x : Str} {st : Stmt} {f : Addr} {ps : List Str} {k : Nat} {sp : Sp} (X : K.In h) (G : h.Ns mainGlobals mg) (d : DefF K x st f)
    (hb : ∀ (kV doc pm : Value) (an : Option Addr) (cdv ct : Value) (us : List Value), us.length = ps.length → bindArgs (PySem.W.fnOf x x (defArgs st) (defBody st) (defScope st) .none kV doc pm an cdv ct) ⟨us, []⟩ = pure (ps.zip us))
    (ok : ∀ fd, Fun K x x st f fd → FnOk P w K mg base CX0 k f fd ps sp) : CalT P w K mg base k x sp := by
  obtain ⟨fd, F⟩ := d.fun_
  exact ⟨f, fd, ps, ok fd F, PySem.W.mg_of X G d.ns, d.kp, F.binds hb⟩
theorem calk_mk {h : Heap} {x : Str} {st : Stmt} {f : Addr} {ps : List Str} {k : Nat} {sp : Sp} {n1 : Str} (X : K.In h) (G : h.Ns mainGlobals mg) (d : DefF K x st f)
    (hb : ∀ (kV doc pm : Value) (an : Option Addr) (cdv ct : Value) (u : Value), bindArgs (PySem.W.fnOf x x (defArgs st) (defBody st) (defScope st) .none kV doc pm an cdv ct) ⟨[], [(n1, u)]⟩ = pure (ps.zip [u]))
    (ok : ∀ fd, Fun K x x st f fd → FnOk P w K mg base CX0 k f fd ps sp) : CalK P w K mg base k x [n1] sp := by
  obtain ⟨fd, F⟩ := d.fun_
  refine ⟨f, fd, ps, ok fd F, PySem.W.mg_of X G d.ns, d.kp, ⟨?_, fun r1 r2 => r1.append r2⟩⟩
  obtain ⟨oc, od, kV, doc, pm, an, cdv, ct, osl, rfl, lk, hcd⟩ := F.ex
  intro s us ws _ h1 h2
  match us, ws, h1, h2 with
  | [], [u], _, _ => exact .of_eq (hb kV doc pm an cdv ct u)
end
/-! ### classes with a KIND, as the top leaves them -/
structure ClsF (K : PySem.W.Frag) (x kind : Str) (C aM fI : Addr) (attrs : List Str) : Prop where
  ns : PySem.W.nsIn K mainGlobals x = some (some (.ref C))
  cl : Cls K C
  mkk : Mk K C fI
  cf : CF K C aM kind
  kind : KindF K C kind
  na : ∀ f ∈ attrs, NoAttr K C f
theorem clsF_mk {K : PySem.W.Frag} {x kind : Str} {C aM fI : Addr} {r : List Str} {t : Tok} (ns : PySem.W.nsIn K mainGlobals x = some (some (.ref C)))
    (pg : PySem.W.plainGet K C Str.empty = true) (hd : PySem.W.hasDictIn K C = true) (po : PySem.W.plainOver K C = true) (sa : PySem.W.findIn K (.ref C) "__setattr__" = some (some (.builtin "object.__setattr__")))
    (mk : PySem.W.makesIn K C = true) (ini : PySem.W.findIn K (.ref C) "__init__" = some (some (.ref fI))) (ifn : PySem.W.isFn K (.ref fI) = true) (kp : PySem.W.keepIn K (.ref C) = true)
    (ha : PySem.W.findIn K (.ref C) "__class__" = some (some (.builtin "object.__class__"))) (hm : PySem.W.mroIn K C (.type "object") = some true) (kit : PySem.W.kitOne K (.ref C) (.ref aM) = some true)
    (kat : PySem.W.findIn K (.ref C) "KIND" = some (some (.str kind t))) (kget : PySem.W.specialIn K (.str kind t) "__get__" = some none) (krd : PySem.W.readsIn K C (.type "type") = true)
    (kga : PySem.W.specialIn K (.ref C) "__getattribute__" = some (some (.builtin "type.__getattribute__"))) (kcl : PySem.W.findCls K (.ref C) (.type "type") "KIND" = some (.val (.str kind t)))
    (hn : PySem.W.specialIn K (.builtin "object.__class__") "__get__" = some (some (.builtin "getset_descriptor.__get__"))) (htk : PySem.W.takesIn K (.builtin "object.__class__") = some true)
    (na : ∀ f ∈ ("name" :: "mode" :: "time" :: r : List Str), PySem.W.findIn K (.ref C) f = some none) : ClsF K x kind C aM fI ("name" :: "mode" :: "time" :: r) :=
  ⟨ns, ⟨pg, hd, po, sa⟩, ⟨mk, ini, ifn, kp⟩, ⟨⟨pg, hd, po, sa⟩, ha, hn, htk, hm, kit, ⟨_, kat, ⟨t, rfl⟩, kget, by decide⟩, na _ (by simp), na _ (by simp), na _ (by simp)⟩, ⟨_, _, ⟨krd, kga⟩, ⟨kcl, ⟨t, rfl⟩⟩⟩, na⟩
structure IniF (K : PySem.W.Frag) (qual : Str) (st : Stmt) (b : Int) (f : Addr) : Prop where
  ex : ∃ (oc : Value) (od : Option Addr) (D : Addr) (doc pm : Value) (an : Option Addr) (cdv ct : Value) (osl : Array (Option Value)) (t1 t2 : Tok),
    K.lookup f = some ⟨oc, od, .func (PySem.W.fnOf "__init__" qual (defArgs st) (defBody st) (defScope st) .none (.ref D) doc pm an cdv ct), osl⟩ ∧ PySem.W.codeIn K cdv qual = true ∧ PySem.W.nsIn K D "mode" = some (some (.int b t1)) ∧ PySem.W.nsIn K D "time" = some (some (.int 0 t2))
  kp : PySem.W.keepIn K (.ref f) = true
theorem iniF_mk {K : PySem.W.Frag} {qual : Str} {st : Stmt} {b : Int} {f : Addr} {oc : Value} {od : Option Addr} {D : Addr} {doc pm : Value} {an : Option Addr} {cdv ct : Value} {osl : Array (Option Value)} {t1 t2 : Tok}
    (il : K.lookup f = some ⟨oc, od, .func (PySem.W.fnOf "__init__" qual (defArgs st) (defBody st) (defScope st) .none (.ref D) doc pm an cdv ct), osl⟩) (ic : PySem.W.codeIn K cdv qual = true) (ik : PySem.W.keepIn K (.ref f) = true)
    (i1 : PySem.W.nsIn K D "mode" = some (some (.int b t1))) (i2 : PySem.W.nsIn K D "time" = some (some (.int 0 t2))) : IniF K qual st b f := ⟨⟨oc, od, D, doc, pm, an, cdv, ct, osl, t1, t2, il, ic, i1, i2⟩, ik⟩
theorem IniF.fun_ {K : PySem.W.Frag} {qual : Str} {st : Stmt} {b : Int} {f : Addr} (d : IniF K qual st b f) : ∃ fd, FunD K "__init__" qual (defArgs st) (defBody st) (defScope st) [] [("mode", .int b), ("time", .int 0)] f fd := by
  obtain ⟨oc, od, D, doc, pm, an, cdv, ct, osl, t1, t2, il, ic, i1, i2⟩ := d.ex
  refine ⟨_, ⟨oc, od, .none, .ref D, doc, pm, an, cdv, ct, osl, rfl, il, ic, .inl ⟨rfl, rfl⟩, .inr ⟨D, rfl, ?_⟩⟩, d.kp⟩
  intro q hq
  simp only [List.mem_cons, List.not_mem_nil, or_false] at hq
  rcases hq with rfl | rfl
  · exact ⟨_, i1, ⟨_, rfl⟩⟩
  · exact ⟨_, i2, ⟨_, rfl⟩⟩
structure MetF (K : PySem.W.Frag) (C : Addr) (m qual : Str) (st : Stmt) (f : Addr) : Prop where
  me : Meth K C m f
  fn : ∃ (oc : Value) (od an : Option Addr) (kV doc pm cdv ct : Value) (osl : Array (Option Value)), K.lookup f = some ⟨oc, od, .func (PySem.W.fnOf m qual (defArgs st) (defBody st) (defScope st) .none kV doc pm an cdv ct), osl⟩ ∧ PySem.W.codeIn K cdv qual = true
theorem metF_mk {K : PySem.W.Frag} {C : Addr} {m qual : Str} {st : Stmt} {f : Addr} {oc : Value} {od an : Option Addr} {kV doc pm cdv ct : Value} {osl : Array (Option Value)} (at_ : PySem.W.findIn K (.ref C) m = some (some (.ref f))) (fn : PySem.W.isFn K (.ref f) = true) (kp : PySem.W.keepIn K (.ref f) = true)
    (l : K.lookup f = some ⟨oc, od, .func (PySem.W.fnOf m qual (defArgs st) (defBody st) (defScope st) .none kV doc pm an cdv ct), osl⟩) (c : PySem.W.codeIn K cdv qual = true) : MetF K C m qual st f := ⟨⟨at_, fn, kp⟩, ⟨oc, od, an, kV, doc, pm, cdv, ct, osl, l, c⟩⟩
theorem MetF.meth {P : Program} {w : World} {K : PySem.W.Frag} {mg : Str → Option Value} {base : Heap} {C : Addr} {m qual : Str} {st : Stmt} {f : Addr} {k : Nat} {sp : Sp} (t : MetF K C m qual st f) (hc : Cls K C) (ok : ∀ fd, Fun K m qual st f fd → FnOk P w K mg base CX0 k f fd ["self"] sp)
    (hb : ∀ (kV doc pm : Value) (an : Option Addr) (cdv ct : Value) (us : List Value), us.length = 1 → bindArgs (PySem.W.fnOf m qual (defArgs st) (defBody st) (defScope st) .none kV doc pm an cdv ct) ⟨us, []⟩ = pure ((["self"] : List Str).zip us) := by intro _ _ _ _ _ _ us hl; match us, hl with | [_], _ => rfl) : MethT P w K mg base k C m sp := by
  obtain ⟨oc, od, an, kV, doc, pm, cdv, ct, osl, l, c⟩ := t.fn
  have F := fun_mk l c t.me.kp
  exact ⟨f, _, ok _ F, hc, t.me, F.binds hb⟩
theorem eqF_mk {K : PySem.W.Frag} {C f : Addr} (eq : PySem.W.findIn K (.ref C) "__eq__" = some (some (.ref f))) (fn : PySem.W.isFn K (.ref f) = true) (ne : PySem.W.findIn K (.ref C) "__ne__" = some (some (.builtin "object.__ne__"))) (ob : PySem.W.subIn K (.ref C) (.type "object") = some true)
    (dN : PySem.W.subIn K (.ref C) (.type "NoneType") = some false) (dS : PySem.W.subIn K (.ref C) (.type "str") = some false) (dL : PySem.W.subIn K (.ref C) (.type "list") = some false) (dT : PySem.W.subIn K (.ref C) (.type "tuple") = some false)
    (kN : PySem.W.kitOne K (.type "NoneType") (.ref C) = some false) (kS : PySem.W.kitOne K (.type "str") (.ref C) = some false) (kL : PySem.W.kitOne K (.type "list") (.ref C) = some false) (kT : PySem.W.kitOne K (.type "tuple") (.ref C) = some false) : EqF K C f := ⟨eq, fn, ne, ob, dN, dS, dL, dT, kN, kS, kL, kT⟩
theorem eqT_mk {P : Program} {w : World} {K : PySem.W.Frag} {mg : Str → Option Value} {base : Heap} {C : Addr} {qual : Str} {st : Stmt} {f : Addr} {k : Nat} {R : Addr → Addr → Hp → Bool → Prop} (e : EqF K C f) (t : MetF K C "__eq__" qual st f) (ok : ∀ fd, Fun K "__eq__" qual st f fd → FnOk P w K mg base CX0 k f fd ["self", "other"] (spEqM K C R))
    (hb : ∀ (kV doc pm : Value) (an : Option Addr) (cdv ct : Value) (us : List Value), us.length = 2 → bindArgs (PySem.W.fnOf "__eq__" qual (defArgs st) (defBody st) (defScope st) .none kV doc pm an cdv ct) ⟨us, []⟩ = pure ((["self", "other"] : List Str).zip us) := by intro _ _ _ _ _ _ us hl; match us, hl with | [_, _], _ => rfl) : EqT P w K mg base k C R := by
  obtain ⟨oc, od, an, kV, doc, pm, cdv, ct, osl, l, c⟩ := t.fn
  have F := fun_mk l c t.me.kp
  exact ⟨f, e, (FnOk.raw (ok _ F) (F.binds hb) .nil).imp fun vs H Q E h => by rw [List.append_nil]; exact h⟩
section
variable {P : Program} {w : World} {K : PySem.W.Frag} {mg : Str → Option Value} {base : Heap}
theorem all_mk {l : PySem.W.OpenLaw} {w : World} {K : PySem.W.Frag} {h : Heap} {mg : Str → Option Value} {fa f_law f__law_source f__law_draw f__law_stamps f__law_random_name f__law_any_name f__law_random_numbers f__law_random_size f__law_random_spans f__law_random_member f__law_near f_is_integer f_is_integer_within f_is_row_of_bytes f_blob f_is_name f_check_name f_is_data f_check_data f_is_mode f_is_time f_check_mode_and_time f_is_size f_is_piece f_are_spans f_are_pieces f_check_pieces f__law_made aM aF fIF fMF___repr__ aS fIS fMS___repr__ aD fID fMD___repr__ aY fIY fMY___repr__ aL fIL fML___repr__ fEF fES fED fEY fEL : Addr} {t_MOST_CHARACTERS t_NAME_CHARACTERS t_MOST_BYTES t_LAST_MODE t_LAST_TIME t_MOST_PIECES : Tok} (X : K.In h) (G : h.Ns mainGlobals mg) (hfa : mg "law" = some (.ref fa))
    (d_law : DefF K "law" s_law f_law)
    (d__law_source : DefF K "_law_source" s__law_source f__law_source)
    (d__law_draw : DefF K "_law_draw" s__law_draw f__law_draw)
    (d__law_stamps : DefF K "_law_stamps" s__law_stamps f__law_stamps)
    (d__law_random_name : DefF K "_law_random_name" s__law_random_name f__law_random_name)
    (d__law_any_name : DefF K "_law_any_name" s__law_any_name f__law_any_name)
    (d__law_random_numbers : DefF K "_law_random_numbers" s__law_random_numbers f__law_random_numbers)
    (d__law_random_size : DefF K "_law_random_size" s__law_random_size f__law_random_size)
    (d__law_random_spans : DefF K "_law_random_spans" s__law_random_spans f__law_random_spans)
    (d__law_random_member : DefF K "_law_random_member" s__law_random_member f__law_random_member)
    (d__law_near : DefF K "_law_near" s__law_near f__law_near)
    (d_is_integer : DefF K "is_integer" s_is_integer f_is_integer)
    (d_is_integer_within : DefF K "is_integer_within" s_is_integer_within f_is_integer_within)
    (d_is_row_of_bytes : DefF K "is_row_of_bytes" s_is_row_of_bytes f_is_row_of_bytes)
    (d_blob : DefF K "blob" s_blob f_blob)
    (d_is_name : DefF K "is_name" s_is_name f_is_name)
    (d_check_name : DefF K "check_name" s_check_name f_check_name)
    (d_is_data : DefF K "is_data" s_is_data f_is_data)
    (d_check_data : DefF K "check_data" s_check_data f_check_data)
    (d_is_mode : DefF K "is_mode" s_is_mode f_is_mode)
    (d_is_time : DefF K "is_time" s_is_time f_is_time)
    (d_check_mode_and_time : DefF K "check_mode_and_time" s_check_mode_and_time f_check_mode_and_time)
    (d_is_size : DefF K "is_size" s_is_size f_is_size)
    (d_is_piece : DefF K "is_piece" s_is_piece f_is_piece)
    (d_are_spans : DefF K "are_spans" s_are_spans f_are_spans)
    (d_are_pieces : DefF K "are_pieces" s_are_pieces f_are_pieces)
    (d_check_pieces : DefF K "check_pieces" s_check_pieces f_check_pieces)
    (d__law_made : DefF K "_law_made" s__law_made f__law_made)
    (n_Member : PySem.W.nsIn K mainGlobals "Member" = some (some (.ref aM)))
    (n_MOST_CHARACTERS : PySem.W.nsIn K mainGlobals "MOST_CHARACTERS" = some (some (.int 250 t_MOST_CHARACTERS)))
    (n_NAME_CHARACTERS : PySem.W.nsIn K mainGlobals "NAME_CHARACTERS" = some (some (.str NC t_NAME_CHARACTERS)))
    (n_MOST_BYTES : PySem.W.nsIn K mainGlobals "MOST_BYTES" = some (some (.int 4096 t_MOST_BYTES)))
    (n_LAST_MODE : PySem.W.nsIn K mainGlobals "LAST_MODE" = some (some (.int 4095 t_LAST_MODE)))
    (n_LAST_TIME : PySem.W.nsIn K mainGlobals "LAST_TIME" = some (some (.int 8589934591 t_LAST_TIME)))
    (n_MOST_PIECES : PySem.W.nsIn K mainGlobals "MOST_PIECES" = some (some (.int 50 t_MOST_PIECES)))
    (hF : ClsF K "File" "file" aF aM fIF ["name", "mode", "time", "data"])
    (iF : IniF K "File.__init__" s_File___init__ 420 fIF)
    (tF___repr__ : MetF K aF "__repr__" "File.__repr__" s_File___repr__ fMF___repr__)
    (hS : ClsF K "Sparse" "sparse" aS aM fIS ["name", "mode", "time", "size", "pieces"])
    (iS : IniF K "Sparse.__init__" s_Sparse___init__ 420 fIS)
    (tS___repr__ : MetF K aS "__repr__" "Sparse.__repr__" s_Sparse___repr__ fMS___repr__)
    (hD : ClsF K "Directory" "directory" aD aM fID ["name", "mode", "time"])
    (iD : IniF K "Directory.__init__" s_Directory___init__ 493 fID)
    (tD___repr__ : MetF K aD "__repr__" "Directory.__repr__" s_Directory___repr__ fMD___repr__)
    (hY : ClsF K "Symlink" "symlink" aY aM fIY ["name", "mode", "time", "target"])
    (iY : IniF K "Symlink.__init__" s_Symlink___init__ 511 fIY)
    (tY___repr__ : MetF K aY "__repr__" "Symlink.__repr__" s_Symlink___repr__ fMY___repr__)
    (hL : ClsF K "Link" "link" aL aM fIL ["name", "mode", "time", "target"])
    (iL : IniF K "Link.__init__" s_Link___init__ 420 fIL)
    (tL___repr__ : MetF K aL "__repr__" "Link.__repr__" s_Link___repr__ fML___repr__)
    (qF : EqF K aF fEF)
    (tF_eq : MetF K aF "__eq__" "File.__eq__" s_File___eq__ fEF)
    (qS : EqF K aS fES)
    (tS_eq : MetF K aS "__eq__" "Sparse.__eq__" s_Sparse___eq__ fES)
    (qD : EqF K aD fED)
    (tD_eq : MetF K aD "__eq__" "Directory.__eq__" s_Directory___eq__ fED)
    (qY : EqF K aY fEY)
    (tY_eq : MetF K aY "__eq__" "Symlink.__eq__" s_Symlink___eq__ fEY)
    (qL : EqF K aL fEL)
    (tL_eq : MetF K aL "__eq__" "Link.__eq__" s_Link___eq__ fEL)
    (nf : ∀ C ∈ [aF, aS, aD, aY, aL], ∀ D ∈ [aF, aS, aD, aY, aL], PySem.W.notFirst K C (.ref D) = true)
    (ki : ∀ p ∈ (Cs.off ⟨aF, aS, aD, aY, aL⟩), PySem.W.kitOne K (.ref p.2) (.ref p.1) = some false)
    (z : ∀ b ∈ (["range", "max", "min", "len", "isinstance", "repr", "tuple", "enumerate", "int", "abs", "list", "bool", "all", "bytes", "str"] : List Str), PySem.W.nsIn K mainGlobals b = some none) :
    ∃ fd : FuncData, (∀ (s : Shared) (v : Value), BindsTo s fd ⟨[v], []⟩ [("_law_script", v)]) ∧ ∀ base : Heap, K.In base → base.Ns mainGlobals mg → FnG l.prog w K mg base 9 fa fd ["_law_script"] (spLaw K) := by
  have e := hfa.symm.trans (PySem.W.mg_of X G d_law.ns)
  cases e
  have bs : ∀ b ∈ (["range", "max", "min", "len", "isinstance", "repr", "tuple", "enumerate", "int", "abs", "list", "bool", "all", "bytes", "str"] : List Str), mg b = none := fun b hb => PySem.W.mg_none_of X G (z b hb)
  have b_range : mg "range" = none := bs _ (by simp)
  have b_max : mg "max" = none := bs _ (by simp)
  have b_min : mg "min" = none := bs _ (by simp)
  have b_len : mg "len" = none := bs _ (by simp)
  have b_isinstance : mg "isinstance" = none := bs _ (by simp)
  have b_repr : mg "repr" = none := bs _ (by simp)
  have b_tuple : mg "tuple" = none := bs _ (by simp)
  have b_enumerate : mg "enumerate" = none := bs _ (by simp)
  have b_int : mg "int" = none := bs _ (by simp)
  have b_abs : mg "abs" = none := bs _ (by simp)
  have b_list : mg "list" = none := bs _ (by simp)
  have b_bool : mg "bool" = none := bs _ (by simp)
  have b_all : mg "all" = none := bs _ (by simp)
  have b_bytes : mg "bytes" = none := bs _ (by simp)
  have b_str : mg "str" = none := bs _ (by simp)
  have g_Member := PySem.W.mg_of X G n_Member
  have g_MOST_CHARACTERS := PySem.W.mg_of X G n_MOST_CHARACTERS
  have g_NAME_CHARACTERS := PySem.W.mg_of X G n_NAME_CHARACTERS
  have g_MOST_BYTES := PySem.W.mg_of X G n_MOST_BYTES
  have g_LAST_MODE := PySem.W.mg_of X G n_LAST_MODE
  have g_LAST_TIME := PySem.W.mg_of X G n_LAST_TIME
  have g_MOST_PIECES := PySem.W.mg_of X G n_MOST_PIECES
  obtain ⟨fd, F⟩ := d_law.fun_
  refine ⟨fd, ?_, ?_⟩
  · obtain ⟨oc, od, kV, doc, pm, an, cdv, ct, osl, rfl, lk, hcd⟩ := F.ex
    intro s v
    exact .of_eq rfl
  · intro base Xb Gb
    have c__law_source : CalT l.prog w K mg base 2 "_law_source" (spSource K) := cal_mk Xb Gb d__law_source (ps := ["_law_script", "_law_at"]) (fun _ _ _ _ _ _ us hl => match us, hl with | [_, _], _ => rfl) fun fd F => ok_source F b_len b_int b_abs b_min b_range
    have c__law_draw : CalT l.prog w K mg base 2 "_law_draw" spDraw := cal_mk Xb Gb d__law_draw (ps := ["_law_source_here", "_law_many"]) (fun _ _ _ _ _ _ us hl => match us, hl with | [_, _], _ => rfl) fun fd F => ok_draw F b_int
    have c__law_stamps : CalT l.prog w K mg base 3 "_law_stamps" spStamps := cal_mk Xb Gb d__law_stamps (ps := ["_law_source_here"]) (fun _ _ _ _ _ _ us hl => match us, hl with | [_], _ => rfl) fun fd F => ok_stamps F c__law_draw
    have c__law_random_name : CalT l.prog w K mg base 3 "_law_random_name" spRName := cal_mk Xb Gb d__law_random_name (ps := ["_law_source_here", "_law_many"]) (fun _ _ _ _ _ _ us hl => match us, hl with | [_, _], _ => rfl) fun fd F => ok_rname F b_range c__law_draw
    have c__law_any_name : CalT l.prog w K mg base 4 "_law_any_name" spAName := cal_mk Xb Gb d__law_any_name (ps := ["_law_source_here"]) (fun _ _ _ _ _ _ us hl => match us, hl with | [_], _ => rfl) fun fd F => ok_aname F b_len c__law_draw c__law_random_name
    have c__law_random_numbers : CalT l.prog w K mg base 3 "_law_random_numbers" spRNum := cal_mk Xb Gb d__law_random_numbers (ps := ["_law_source_here", "_law_many"]) (fun _ _ _ _ _ _ us hl => match us, hl with | [_, _], _ => rfl) fun fd F => ok_rnum F b_range b_int c__law_draw
    have c__law_random_size : CalT l.prog w K mg base 3 "_law_random_size" spRSize := cal_mk Xb Gb d__law_random_size (ps := ["_law_source_here"]) (fun _ _ _ _ _ _ us hl => match us, hl with | [_], _ => rfl) fun fd F => ok_rsize F c__law_draw
    have c__law_random_spans : CalT l.prog w K mg base 3 "_law_random_spans" spSpans := cal_mk Xb Gb d__law_random_spans (ps := ["_law_source_here", "_law_size"]) (fun _ _ _ _ _ _ us hl => match us, hl with | [_, _], _ => rfl) fun fd F => ok_spans F b_len c__law_draw
    have c__law_random_member : CalT l.prog w K mg base 5 "_law_random_member" spRMem := cal_mk Xb Gb d__law_random_member (ps := ["_law_source_here"]) (fun _ _ _ _ _ _ us hl => match us, hl with | [_], _ => rfl) fun fd F => ok_rmem F b_int c__law_draw c__law_stamps c__law_any_name c__law_random_numbers c__law_random_size c__law_random_spans
    have c__law_near : CalT l.prog w K mg base 5 "_law_near" spNear := cal_mk Xb Gb d__law_near (ps := ["_law_source_here", "_law_one"]) (fun _ _ _ _ _ _ us hl => match us, hl with | [_, _], _ => rfl) fun fd F => ok_near F b_int b_list c__law_draw c__law_any_name
    have c_is_integer : CalT l.prog w K mg base 1 "is_integer" spIsI := cal_mk Xb Gb d_is_integer (ps := ["thing"]) (fun _ _ _ _ _ _ us hl => match us, hl with | [_], _ => rfl) fun fd F => ok_isI F b_isinstance b_bool b_int
    have c_is_integer_within : CalT l.prog w K mg base 2 "is_integer_within" spWithin := cal_mk Xb Gb d_is_integer_within (ps := ["thing", "least", "most"]) (fun _ _ _ _ _ _ us hl => match us, hl with | [_, _, _], _ => rfl) fun fd F => ok_within F c_is_integer
    have c_is_row_of_bytes : CalT l.prog w K mg base 3 "is_row_of_bytes" spRow := cal_mk Xb Gb d_is_row_of_bytes (ps := ["thing"]) (fun _ _ _ _ _ _ us hl => match us, hl with | [_], _ => rfl) fun fd F => ok_row F c_is_integer_within b_isinstance b_list b_tuple b_all
    have c_blob : CalT l.prog w K mg base 4 "blob" spBlob := cal_mk Xb Gb d_blob (ps := ["numbers"]) (fun _ _ _ _ _ _ us hl => match us, hl with | [_], _ => rfl) fun fd F => ok_blob F c_is_row_of_bytes b_bytes
    have c_is_name : CalT l.prog w K mg base 2 "is_name" (spName K) := cal_mk Xb Gb d_is_name (ps := ["thing"]) (fun _ _ _ _ _ _ us hl => match us, hl with | [_], _ => rfl) fun fd F => ok_name F b_isinstance b_str b_len b_all g_MOST_CHARACTERS g_NAME_CHARACTERS
    have c_check_name : CalT l.prog w K mg base 3 "check_name" spCName := cal_mk Xb Gb d_check_name (ps := ["thing"]) (fun _ _ _ _ _ _ us hl => match us, hl with | [_], _ => rfl) fun fd F => ok_cname F c_is_name
    have c_is_data : CalT l.prog w K mg base 2 "is_data" spIsData := cal_mk Xb Gb d_is_data (ps := ["thing"]) (fun _ _ _ _ _ _ us hl => match us, hl with | [_], _ => rfl) fun fd F => ok_isdata F b_isinstance b_bytes b_len g_MOST_BYTES
    have c_check_data : CalT l.prog w K mg base 3 "check_data" spCData := cal_mk Xb Gb d_check_data (ps := ["thing"]) (fun _ _ _ _ _ _ us hl => match us, hl with | [_], _ => rfl) fun fd F => ok_cdata F c_is_data
    have c_is_mode : CalT l.prog w K mg base 3 "is_mode" (spIn 0 4095) := cal_mk Xb Gb d_is_mode (ps := ["thing"]) (fun _ _ _ _ _ _ us hl => match us, hl with | [_], _ => rfl) fun fd F => ok_ismode F g_LAST_MODE c_is_integer_within
    have c_is_time : CalT l.prog w K mg base 3 "is_time" (spIn 0 8589934591) := cal_mk Xb Gb d_is_time (ps := ["thing"]) (fun _ _ _ _ _ _ us hl => match us, hl with | [_], _ => rfl) fun fd F => ok_istime F g_LAST_TIME c_is_integer_within
    have c_check_mode_and_time : CalT l.prog w K mg base 4 "check_mode_and_time" spStamp := cal_mk Xb Gb d_check_mode_and_time (ps := ["mode", "time"]) (fun _ _ _ _ _ _ us hl => match us, hl with | [_, _], _ => rfl) fun fd F => ok_stamp F c_is_mode c_is_time
    have c_is_size : CalT l.prog w K mg base 3 "is_size" (spIn 0 4096) := cal_mk Xb Gb d_is_size (ps := ["thing"]) (fun _ _ _ _ _ _ us hl => match us, hl with | [_], _ => rfl) fun fd F => ok_issize F g_MOST_BYTES c_is_integer_within
    have c_is_piece : CalT l.prog w K mg base 3 "is_piece" spPiece := cal_mk Xb Gb d_is_piece (ps := ["thing"]) (fun _ _ _ _ _ _ us hl => match us, hl with | [_], _ => rfl) fun fd F => ok_piece F b_isinstance b_tuple b_len b_bytes g_MOST_BYTES c_is_integer_within
    have c_are_spans : CalT l.prog w K mg base 2 "are_spans" spASpans := cal_mk Xb Gb d_are_spans (ps := ["size", "spans"]) (fun _ _ _ _ _ _ us hl => match us, hl with | [_, _], _ => rfl) fun fd F => ok_aspans F b_len g_MOST_PIECES
    have c_are_pieces : CalT l.prog w K mg base 4 "are_pieces" spAPieces := cal_mk Xb Gb d_are_pieces (ps := ["size", "pieces"]) (fun _ _ _ _ _ _ us hl => match us, hl with | [_, _], _ => rfl) fun fd F => ok_apieces F b_len b_all c_is_piece c_are_spans
    have c_check_pieces : CalT l.prog w K mg base 5 "check_pieces" spCPieces := cal_mk Xb Gb d_check_pieces (ps := ["size", "pieces"]) (fun _ _ _ _ _ _ us hl => match us, hl with | [_, _], _ => rfl) fun fd F => ok_cpieces F c_is_size c_are_pieces
    have mkF_K : MakS l.prog w K mg base 5 "File" aF ["mode", "time"] (fun vs zs H Q => vs.length = 3 ∧ ∀ E, spFileI aF (vs ++ zs) H Q E) := by
      obtain ⟨fd, F⟩ := iF.fun_
      obtain ⟨mv, hb⟩ := F.kbinds0 (ps := ["self", "name", "data", "mode", "time"]) 3 ["mode", "time"] [] (fun us _ ws => us ++ ws) (by simp) (by simp) (fun r1 _ r2 => r1.append r2) (fun D doc pm an cdv ct us mv ws h1 h2 h3 => match us, mv, ws, h1, h2, h3 with | [_, _, _], [], [_, _], _, _, _ => rfl)
      exact ⟨fIF, hF.mkk, fnS_of (ok_fileI F hF.cl (hF.na "name" (by simp)) (hF.na "data" (by simp)) (hF.na "mode" (by simp)) (hF.na "time" (by simp)) c_check_name c_check_data c_check_mode_and_time) hb, PySem.W.mg_of X G hF.ns⟩
    have mkF_D : MakS l.prog w K mg base 5 "File" aF [] (fun vs zs H Q => zs = [] ∧ ∀ E, spFileI aF (vs ++ [.int 420, .int 0]) H Q E) := by
      obtain ⟨fd, F⟩ := iF.fun_
      obtain ⟨ds, hd, hb⟩ := F.binds0 (ps := ["self", "name", "data", "mode", "time"]) 3 (by simp) rfl (fun D doc pm an cdv ct us ks h1 h2 => match us, ks, h1, h2 with | [_, _, _], [_, _], _, _ => ⟨_, _, _, _, _, _, rfl, rfl, _, _, _, _, _, _, rfl, rfl, rfl⟩)
      exact ⟨fIF, hF.mkk, fnS_dfl (ok_fileI F hF.cl (hF.na "name" (by simp)) (hF.na "data" (by simp)) (hF.na "mode" (by simp)) (hF.na "time" (by simp)) c_check_name c_check_data c_check_mode_and_time) hb hd, PySem.W.mg_of X G hF.ns⟩
    have mkS_K : MakS l.prog w K mg base 6 "Sparse" aS ["mode", "time"] (fun vs zs H Q => ∃ b t : Int, zs = [.int b, .int t] ∧ spSpa aS b t vs H Q) := by
      obtain ⟨fd, F⟩ := iS.fun_
      exact ⟨fIS, hS.mkk, ok_spaK F hS.cl (hS.na "name" (by simp)) (hS.na "size" (by simp)) (hS.na "mode" (by simp)) (hS.na "time" (by simp)) (hS.na "pieces" (by simp)) c_check_name c_check_pieces c_check_mode_and_time, PySem.W.mg_of X G hS.ns⟩
    have mkS_D : MakS l.prog w K mg base 6 "Sparse" aS [] (fun vs zs H Q => zs = [] ∧ spSpa aS 420 0 vs H Q) := by
      obtain ⟨fd, F⟩ := iS.fun_
      exact ⟨fIS, hS.mkk, ok_spaD F hS.cl (hS.na "name" (by simp)) (hS.na "size" (by simp)) (hS.na "mode" (by simp)) (hS.na "time" (by simp)) (hS.na "pieces" (by simp)) c_check_name c_check_pieces c_check_mode_and_time, PySem.W.mg_of X G hS.ns⟩
    have mkD_K : MakS l.prog w K mg base 5 "Directory" aD ["mode", "time"] (fun vs zs H Q => vs.length = 2 ∧ ∀ E, spDirI aD (vs ++ zs) H Q E) := by
      obtain ⟨fd, F⟩ := iD.fun_
      obtain ⟨mv, hb⟩ := F.kbinds0 (ps := ["self", "name", "mode", "time"]) 2 ["mode", "time"] [] (fun us _ ws => us ++ ws) (by simp) (by simp) (fun r1 _ r2 => r1.append r2) (fun D doc pm an cdv ct us mv ws h1 h2 h3 => match us, mv, ws, h1, h2, h3 with | [_, _], [], [_, _], _, _, _ => rfl)
      exact ⟨fID, hD.mkk, fnS_of (ok_dirI F hD.cl (hD.na "name" (by simp)) (hD.na "mode" (by simp)) (hD.na "time" (by simp)) c_check_name c_check_mode_and_time) hb, PySem.W.mg_of X G hD.ns⟩
    have mkD_D : MakS l.prog w K mg base 5 "Directory" aD [] (fun vs zs H Q => zs = [] ∧ ∀ E, spDirI aD (vs ++ [.int 493, .int 0]) H Q E) := by
      obtain ⟨fd, F⟩ := iD.fun_
      obtain ⟨ds, hd, hb⟩ := F.binds0 (ps := ["self", "name", "mode", "time"]) 2 (by simp) rfl (fun D doc pm an cdv ct us ks h1 h2 => match us, ks, h1, h2 with | [_, _], [_, _], _, _ => ⟨_, _, _, _, _, _, rfl, rfl, _, _, _, _, _, _, rfl, rfl, rfl⟩)
      exact ⟨fID, hD.mkk, fnS_dfl (ok_dirI F hD.cl (hD.na "name" (by simp)) (hD.na "mode" (by simp)) (hD.na "time" (by simp)) c_check_name c_check_mode_and_time) hb hd, PySem.W.mg_of X G hD.ns⟩
    have mkD_M : MakS l.prog w K mg base 5 "Directory" aD ["mode"] (fun vs zs H Q => vs.length = 2 ∧ ∀ E, spDirI aD (vs ++ zs ++ [.int 0]) H Q E) := by
      obtain ⟨fd, F⟩ := iD.fun_
      obtain ⟨mv, hb⟩ := F.kbinds0 (ps := ["self", "name", "mode", "time"]) 2 ["mode"] [("time", .int 0)] (fun us mv ws => us ++ ws ++ mv) (by simp) (by simp) (fun r1 r2 r3 => (r1.append r3).append r2) (fun D doc pm an cdv ct us mv ws h1 h2 h3 => match us, mv, ws, h1, h2, h3 with | [_, _], [_], [_], _, _, _ => ⟨_, _, _, _, _, _, rfl, rfl, rfl⟩)
      exact ⟨fID, hD.mkk, fnS_ofM (ok_dirI F hD.cl (hD.na "name" (by simp)) (hD.na "mode" (by simp)) (hD.na "time" (by simp)) c_check_name c_check_mode_and_time) hb, PySem.W.mg_of X G hD.ns⟩
    have mkY_K : MakS l.prog w K mg base 5 "Symlink" aY ["mode", "time"] (fun vs zs H Q => vs.length = 3 ∧ ∀ E, spSymI aY (vs ++ zs) H Q E) := by
      obtain ⟨fd, F⟩ := iY.fun_
      obtain ⟨mv, hb⟩ := F.kbinds0 (ps := ["self", "name", "target", "mode", "time"]) 3 ["mode", "time"] [] (fun us _ ws => us ++ ws) (by simp) (by simp) (fun r1 _ r2 => r1.append r2) (fun D doc pm an cdv ct us mv ws h1 h2 h3 => match us, mv, ws, h1, h2, h3 with | [_, _, _], [], [_, _], _, _, _ => rfl)
      exact ⟨fIY, hY.mkk, fnS_of (ok_symI F hY.cl (hY.na "name" (by simp)) (hY.na "target" (by simp)) (hY.na "mode" (by simp)) (hY.na "time" (by simp)) c_check_name c_check_mode_and_time) hb, PySem.W.mg_of X G hY.ns⟩
    have mkY_D : MakS l.prog w K mg base 5 "Symlink" aY [] (fun vs zs H Q => zs = [] ∧ ∀ E, spSymI aY (vs ++ [.int 511, .int 0]) H Q E) := by
      obtain ⟨fd, F⟩ := iY.fun_
      obtain ⟨ds, hd, hb⟩ := F.binds0 (ps := ["self", "name", "target", "mode", "time"]) 3 (by simp) rfl (fun D doc pm an cdv ct us ks h1 h2 => match us, ks, h1, h2 with | [_, _, _], [_, _], _, _ => ⟨_, _, _, _, _, _, rfl, rfl, _, _, _, _, _, _, rfl, rfl, rfl⟩)
      exact ⟨fIY, hY.mkk, fnS_dfl (ok_symI F hY.cl (hY.na "name" (by simp)) (hY.na "target" (by simp)) (hY.na "mode" (by simp)) (hY.na "time" (by simp)) c_check_name c_check_mode_and_time) hb hd, PySem.W.mg_of X G hY.ns⟩
    have mkL_K : MakS l.prog w K mg base 5 "Link" aL ["mode", "time"] (fun vs zs H Q => vs.length = 3 ∧ ∀ E, spSymI aL (vs ++ zs) H Q E) := by
      obtain ⟨fd, F⟩ := iL.fun_
      obtain ⟨mv, hb⟩ := F.kbinds0 (ps := ["self", "name", "target", "mode", "time"]) 3 ["mode", "time"] [] (fun us _ ws => us ++ ws) (by simp) (by simp) (fun r1 _ r2 => r1.append r2) (fun D doc pm an cdv ct us mv ws h1 h2 h3 => match us, mv, ws, h1, h2, h3 with | [_, _, _], [], [_, _], _, _, _ => rfl)
      exact ⟨fIL, hL.mkk, fnS_of (ok_lnkI F hL.cl (hL.na "name" (by simp)) (hL.na "target" (by simp)) (hL.na "mode" (by simp)) (hL.na "time" (by simp)) c_check_name c_check_mode_and_time) hb, PySem.W.mg_of X G hL.ns⟩
    have mkL_D : MakS l.prog w K mg base 5 "Link" aL [] (fun vs zs H Q => zs = [] ∧ ∀ E, spSymI aL (vs ++ [.int 420, .int 0]) H Q E) := by
      obtain ⟨fd, F⟩ := iL.fun_
      obtain ⟨ds, hd, hb⟩ := F.binds0 (ps := ["self", "name", "target", "mode", "time"]) 3 (by simp) rfl (fun D doc pm an cdv ct us ks h1 h2 => match us, ks, h1, h2 with | [_, _, _], [_, _], _, _ => ⟨_, _, _, _, _, _, rfl, rfl, _, _, _, _, _, _, rfl, rfl, rfl⟩)
      exact ⟨fIL, hL.mkk, fnS_dfl (ok_lnkI F hL.cl (hL.na "name" (by simp)) (hL.na "target" (by simp)) (hL.na "mode" (by simp)) (hL.na "time" (by simp)) c_check_name c_check_mode_and_time) hb hd, PySem.W.mg_of X G hL.ns⟩
    have mF___repr__ : MethT l.prog w K mg base 2 aF "__repr__" (spRepr aF "File") := tF___repr__.meth (hF.cl) fun fd F => ok_reprFile F hF.cl (hF.na "name" (by simp))
    have mS___repr__ : MethT l.prog w K mg base 2 aS "__repr__" (spRepr aS "Sparse") := tS___repr__.meth (hS.cl) fun fd F => ok_reprSparse F hS.cl (hS.na "name" (by simp))
    have mD___repr__ : MethT l.prog w K mg base 2 aD "__repr__" (spRepr aD "Directory") := tD___repr__.meth (hD.cl) fun fd F => ok_reprDirectory F hD.cl (hD.na "name" (by simp))
    have mY___repr__ : MethT l.prog w K mg base 2 aY "__repr__" (spRepr aY "Symlink") := tY___repr__.meth (hY.cl) fun fd F => ok_reprSymlink F hY.cl (hY.na "name" (by simp))
    have mL___repr__ : MethT l.prog w K mg base 2 aL "__repr__" (spRepr aL "Link") := tL___repr__.meth (hL.cl) fun fd F => ok_reprLink F hL.cl (hL.na "name" (by simp))
    have c__law_made : CalT l.prog w K mg base 8 "_law_made" (spMade ⟨aF, aS, aD, aY, aL⟩) := cal_mk Xb Gb d__law_made (ps := ["_law_one"]) (fun _ _ _ _ _ _ us hl => match us, hl with | [_], _ => rfl) fun fd F => ok_made F b_len c_blob mkF_K mkD_K mkY_K mkL_K mkS_K
    have eF : EqT l.prog w K mg base 2 aF (RF aF) := eqT_mk qF tF_eq fun fd F => ok_eqFile (c := ⟨aF, aS, aD, aY, aL⟩) F b_isinstance (PySem.W.mg_of X G hF.ns) hF.cf (hF.na "data" (by simp))
    have eS : EqT l.prog w K mg base 2 aS (RS aS) := eqT_mk qS tS_eq fun fd F => ok_eqSparse (c := ⟨aF, aS, aD, aY, aL⟩) F b_isinstance (PySem.W.mg_of X G hS.ns) hS.cf (hS.na "size" (by simp)) (hS.na "pieces" (by simp))
    have eD : EqT l.prog w K mg base 2 aD (RD aD) := eqT_mk qD tD_eq fun fd F => ok_eqDirectory (c := ⟨aF, aS, aD, aY, aL⟩) F b_isinstance (PySem.W.mg_of X G hD.ns) hD.cf
    have eY : EqT l.prog w K mg base 2 aY (RY aY) := eqT_mk qY tY_eq fun fd F => ok_eqSymlink (c := ⟨aF, aS, aD, aY, aL⟩) F b_isinstance (PySem.W.mg_of X G hY.ns) hY.cf (hY.na "target" (by simp))
    have eL : EqT l.prog w K mg base 2 aL (RL aL) := eqT_mk qL tL_eq fun fd F => ok_eqLink (c := ⟨aF, aS, aD, aY, aL⟩) F b_isinstance (PySem.W.mg_of X G hL.ns) hL.cf (hL.na "target" (by simp))
    have EA : EqAll l.prog w K mg base ⟨aF, aS, aD, aY, aL⟩ aM := ⟨eF, eS, eD, eY, eL, hF.cf, hS.cf, hD.cf, hY.cf, hL.cf, nf, ki⟩
    exact ok_law (c := ⟨aF, aS, aD, aY, aL⟩) F b_range b_max b_min b_len b_isinstance b_repr b_tuple b_enumerate g_Member EA mF___repr__ mS___repr__ mD___repr__ mY___repr__ mL___repr__ c__law_source c__law_random_member c__law_near c__law_made c_blob mkF_D mkD_M mkS_D
theorem walk {l : PySem.W.OpenLaw} {q : Program} {loose : List Str} {XP : (Str → Option Value) → Heap → Prop} {YP : World → Heap → Prop} {d : DefRec} {K : Params → PySem.W.Frag} (hn : l.most = some 63) (hdf : d.params.defaults = [])
    (hY : ∀ (w : World) (h : Heap), YP w h → (K w.params).In h)
    (F : ∀ (w : World) (mg : Str → Option Value) (fa : Addr) (h : Heap), (K w.params).In h → h.Ns mainGlobals mg → mg d.name = some (.ref fa) →
      ∃ fd : FuncData, (∀ (s : Shared) (u : Value), BindsTo s fd ⟨[u], []⟩ [("_law_script", u)]) ∧ ∀ base : Heap, (K w.params).In base → base.Ns mainGlobals mg → FnG l.prog w (K w.params) mg base 9 fa fd ["_law_script"] (spLaw (K w.params))) :
    PySem.W.WalkO q loose XP YP l.row.toRowW d [] (fun f vs => PySem.call f vs) :=
  walkG (n := 63) (k := 9) (sp := fun w => spLaw (K w.params)) hn (by decide) hdf ⟨rfl, by decide, by decide⟩ hY F (fun _ _ a ns hl _ hS => ⟨a, ns, rfl, hS, hl, fun _ => rfl⟩)
end
end Th
open PySem PySem.W PyProof.Rows
set_option maxRecDepth 100000 in
set_option maxHeartbeats 0 in
theorem PySem.Challenge.cw_tarhouse_k04_members_compared_holds : PySem.Challenge.rw_tarhouse_k04_members_compared.Holds := by
  w_on; o_law; k_head; (case hw => w_witness2)
  k_fill
  refine Th.walk (l := PySem.Challenge.rw_tarhouse_k04_members_compared) rfl rfl (fun w h Y => PySem.W.kIn_of Y) ?F
  case F =>
    intro w mg fa h KX G hmg
    refine' Th.all_mk KX G hmg (Th.defF_mk ?a_law ?l_law ?c_law ?k_law) (Th.defF_mk ?a__law_source ?l__law_source ?c__law_source ?k__law_source) (Th.defF_mk ?a__law_draw ?l__law_draw ?c__law_draw ?k__law_draw) (Th.defF_mk ?a__law_stamps ?l__law_stamps ?c__law_stamps ?k__law_stamps) (Th.defF_mk ?a__law_random_name ?l__law_random_name ?c__law_random_name ?k__law_random_name) (Th.defF_mk ?a__law_any_name ?l__law_any_name ?c__law_any_name ?k__law_any_name) (Th.defF_mk ?a__law_random_numbers ?l__law_random_numbers ?c__law_random_numbers ?k__law_random_numbers) (Th.defF_mk ?a__law_random_size ?l__law_random_size ?c__law_random_size ?k__law_random_size) (Th.defF_mk ?a__law_random_spans ?l__law_random_spans ?c__law_random_spans ?k__law_random_spans) (Th.defF_mk ?a__law_random_member ?l__law_random_member ?c__law_random_member ?k__law_random_member) (Th.defF_mk ?a__law_near ?l__law_near ?c__law_near ?k__law_near) (Th.defF_mk ?a_is_integer ?l_is_integer ?c_is_integer ?k_is_integer) (Th.defF_mk ?a_is_integer_within ?l_is_integer_within ?c_is_integer_within ?k_is_integer_within) (Th.defF_mk ?a_is_row_of_bytes ?l_is_row_of_bytes ?c_is_row_of_bytes ?k_is_row_of_bytes) (Th.defF_mk ?a_blob ?l_blob ?c_blob ?k_blob) (Th.defF_mk ?a_is_name ?l_is_name ?c_is_name ?k_is_name) (Th.defF_mk ?a_check_name ?l_check_name ?c_check_name ?k_check_name) (Th.defF_mk ?a_is_data ?l_is_data ?c_is_data ?k_is_data) (Th.defF_mk ?a_check_data ?l_check_data ?c_check_data ?k_check_data) (Th.defF_mk ?a_is_mode ?l_is_mode ?c_is_mode ?k_is_mode) (Th.defF_mk ?a_is_time ?l_is_time ?c_is_time ?k_is_time) (Th.defF_mk ?a_check_mode_and_time ?l_check_mode_and_time ?c_check_mode_and_time ?k_check_mode_and_time) (Th.defF_mk ?a_is_size ?l_is_size ?c_is_size ?k_is_size) (Th.defF_mk ?a_is_piece ?l_is_piece ?c_is_piece ?k_is_piece) (Th.defF_mk ?a_are_spans ?l_are_spans ?c_are_spans ?k_are_spans) (Th.defF_mk ?a_are_pieces ?l_are_pieces ?c_are_pieces ?k_are_pieces) (Th.defF_mk ?a_check_pieces ?l_check_pieces ?c_check_pieces ?k_check_pieces) (Th.defF_mk ?a__law_made ?l__law_made ?c__law_made ?k__law_made) ?n_Member ?n_MOST_CHARACTERS ?n_NAME_CHARACTERS ?n_MOST_BYTES ?n_LAST_MODE ?n_LAST_TIME ?n_MOST_PIECES (Th.clsF_mk ?F_ns ?F_pg ?F_hd ?F_po ?F_sa ?F_mk ?F_ini ?F_ifn ?F_kp ?F_ha ?F_hm ?F_kit ?F_kat ?F_kget ?F_krd ?F_kga ?F_kcl ?F_hn ?F_htk ?F_na) (Th.iniF_mk ?F_il ?F_ic ?F_ik ?F_i1 ?F_i2) (Th.metF_mk ?F__repr___at ?F__repr___fn ?F__repr___kp ?F__repr___l ?F__repr___c) (Th.clsF_mk ?S_ns ?S_pg ?S_hd ?S_po ?S_sa ?S_mk ?S_ini ?S_ifn ?S_kp ?S_ha ?S_hm ?S_kit ?S_kat ?S_kget ?S_krd ?S_kga ?S_kcl ?S_hn ?S_htk ?S_na) (Th.iniF_mk ?S_il ?S_ic ?S_ik ?S_i1 ?S_i2) (Th.metF_mk ?S__repr___at ?S__repr___fn ?S__repr___kp ?S__repr___l ?S__repr___c) (Th.clsF_mk ?D_ns ?D_pg ?D_hd ?D_po ?D_sa ?D_mk ?D_ini ?D_ifn ?D_kp ?D_ha ?D_hm ?D_kit ?D_kat ?D_kget ?D_krd ?D_kga ?D_kcl ?D_hn ?D_htk ?D_na) (Th.iniF_mk ?D_il ?D_ic ?D_ik ?D_i1 ?D_i2) (Th.metF_mk ?D__repr___at ?D__repr___fn ?D__repr___kp ?D__repr___l ?D__repr___c) (Th.clsF_mk ?Y_ns ?Y_pg ?Y_hd ?Y_po ?Y_sa ?Y_mk ?Y_ini ?Y_ifn ?Y_kp ?Y_ha ?Y_hm ?Y_kit ?Y_kat ?Y_kget ?Y_krd ?Y_kga ?Y_kcl ?Y_hn ?Y_htk ?Y_na) (Th.iniF_mk ?Y_il ?Y_ic ?Y_ik ?Y_i1 ?Y_i2) (Th.metF_mk ?Y__repr___at ?Y__repr___fn ?Y__repr___kp ?Y__repr___l ?Y__repr___c) (Th.clsF_mk ?L_ns ?L_pg ?L_hd ?L_po ?L_sa ?L_mk ?L_ini ?L_ifn ?L_kp ?L_ha ?L_hm ?L_kit ?L_kat ?L_kget ?L_krd ?L_kga ?L_kcl ?L_hn ?L_htk ?L_na) (Th.iniF_mk ?L_il ?L_ic ?L_ik ?L_i1 ?L_i2) (Th.metF_mk ?L__repr___at ?L__repr___fn ?L__repr___kp ?L__repr___l ?L__repr___c) (Th.eqF_mk ?qF_eq ?qF_fn ?qF_ne ?qF_ob ?qF_dN ?qF_dS ?qF_dL ?qF_dT ?qF_kN_kit ?qF_kS_kit ?qF_kL_kit ?qF_kT_kit) (Th.metF_mk ?F_eq_at ?F_eq_fn ?F_eq_kp ?F_eq_l ?F_eq_c) (Th.eqF_mk ?qS_eq ?qS_fn ?qS_ne ?qS_ob ?qS_dN ?qS_dS ?qS_dL ?qS_dT ?qS_kN_kit ?qS_kS_kit ?qS_kL_kit ?qS_kT_kit) (Th.metF_mk ?S_eq_at ?S_eq_fn ?S_eq_kp ?S_eq_l ?S_eq_c) (Th.eqF_mk ?qD_eq ?qD_fn ?qD_ne ?qD_ob ?qD_dN ?qD_dS ?qD_dL ?qD_dT ?qD_kN_kit ?qD_kS_kit ?qD_kL_kit ?qD_kT_kit) (Th.metF_mk ?D_eq_at ?D_eq_fn ?D_eq_kp ?D_eq_l ?D_eq_c) (Th.eqF_mk ?qY_eq ?qY_fn ?qY_ne ?qY_ob ?qY_dN ?qY_dS ?qY_dL ?qY_dT ?qY_kN_kit ?qY_kS_kit ?qY_kL_kit ?qY_kT_kit) (Th.metF_mk ?Y_eq_at ?Y_eq_fn ?Y_eq_kp ?Y_eq_l ?Y_eq_c) (Th.eqF_mk ?qL_eq ?qL_fn ?qL_ne ?qL_ob ?qL_dN ?qL_dS ?qL_dL ?qL_dT ?qL_kN_kit ?qL_kS_kit ?qL_kL_kit ?qL_kT_kit) (Th.metF_mk ?L_eq_at ?L_eq_fn ?L_eq_kp ?L_eq_l ?L_eq_c) ?nf ?ki ?z
    (case a_law => k_is); (case l_law => k_is); (case c_law => k_is); (case k_law => k_is)
    (case a__law_source => k_is); (case l__law_source => k_is); (case c__law_source => k_is); (case k__law_source => k_is)
    (case a__law_draw => k_is); (case l__law_draw => k_is); (case c__law_draw => k_is); (case k__law_draw => k_is)
    (case a__law_stamps => k_is); (case l__law_stamps => k_is); (case c__law_stamps => k_is); (case k__law_stamps => k_is)
    (case a__law_random_name => k_is); (case l__law_random_name => k_is); (case c__law_random_name => k_is); (case k__law_random_name => k_is)
    (case a__law_any_name => k_is); (case l__law_any_name => k_is); (case c__law_any_name => k_is); (case k__law_any_name => k_is)
    (case a__law_random_numbers => k_is); (case l__law_random_numbers => k_is); (case c__law_random_numbers => k_is); (case k__law_random_numbers => k_is)
    (case a__law_random_size => k_is); (case l__law_random_size => k_is); (case c__law_random_size => k_is); (case k__law_random_size => k_is)
    (case a__law_random_spans => k_is); (case l__law_random_spans => k_is); (case c__law_random_spans => k_is); (case k__law_random_spans => k_is)
    (case a__law_random_member => k_is); (case l__law_random_member => k_is); (case c__law_random_member => k_is); (case k__law_random_member => k_is)
    (case a__law_near => k_is); (case l__law_near => k_is); (case c__law_near => k_is); (case k__law_near => k_is)
    (case a_is_integer => k_is); (case l_is_integer => k_is); (case c_is_integer => k_is); (case k_is_integer => k_is)
    (case a_is_integer_within => k_is); (case l_is_integer_within => k_is); (case c_is_integer_within => k_is); (case k_is_integer_within => k_is)
    (case a_is_row_of_bytes => k_is); (case l_is_row_of_bytes => k_is); (case c_is_row_of_bytes => k_is); (case k_is_row_of_bytes => k_is)
    (case a_blob => k_is); (case l_blob => k_is); (case c_blob => k_is); (case k_blob => k_is)
    (case a_is_name => k_is); (case l_is_name => k_is); (case c_is_name => k_is); (case k_is_name => k_is)
    (case a_check_name => k_is); (case l_check_name => k_is); (case c_check_name => k_is); (case k_check_name => k_is)
    (case a_is_data => k_is); (case l_is_data => k_is); (case c_is_data => k_is); (case k_is_data => k_is)
    (case a_check_data => k_is); (case l_check_data => k_is); (case c_check_data => k_is); (case k_check_data => k_is)
    (case a_is_mode => k_is); (case l_is_mode => k_is); (case c_is_mode => k_is); (case k_is_mode => k_is)
    (case a_is_time => k_is); (case l_is_time => k_is); (case c_is_time => k_is); (case k_is_time => k_is)
    (case a_check_mode_and_time => k_is); (case l_check_mode_and_time => k_is); (case c_check_mode_and_time => k_is); (case k_check_mode_and_time => k_is)
    (case a_is_size => k_is); (case l_is_size => k_is); (case c_is_size => k_is); (case k_is_size => k_is)
    (case a_is_piece => k_is); (case l_is_piece => k_is); (case c_is_piece => k_is); (case k_is_piece => k_is)
    (case a_are_spans => k_is); (case l_are_spans => k_is); (case c_are_spans => k_is); (case k_are_spans => k_is)
    (case a_are_pieces => k_is); (case l_are_pieces => k_is); (case c_are_pieces => k_is); (case k_are_pieces => k_is)
    (case a_check_pieces => k_is); (case l_check_pieces => k_is); (case c_check_pieces => k_is); (case k_check_pieces => k_is)
    (case a__law_made => k_is); (case l__law_made => k_is); (case c__law_made => k_is); (case k__law_made => k_is)
    (case n_Member => k_is)
    (case n_MOST_CHARACTERS => k_is)
    (case n_NAME_CHARACTERS => k_is)
    (case n_MOST_BYTES => k_is)
    (case n_LAST_MODE => k_is)
    (case n_LAST_TIME => k_is)
    (case n_MOST_PIECES => k_is)
    (case F_ns => k_is); (case F_pg => k_is); (case F_hd => k_is); (case F_po => k_is); (case F_sa => k_is); (case F_mk => k_is); (case F_ini => k_is); (case F_ifn => k_is); (case F_kp => k_is); (case F_ha => k_is); (case F_hm => k_is); (case F_kit => kit_is); (case F_kat => k_is); (case F_kget => k_is); (case F_krd => k_is); (case F_kga => k_is); (case F_kcl => k_is); (case F_hn => k_is); (case F_htk => k_is)
    case F_na =>
      refine List.forall_mem_cons.mpr ⟨?_, ?_⟩; (k_is)
      refine List.forall_mem_cons.mpr ⟨?_, ?_⟩; (k_is)
      refine List.forall_mem_cons.mpr ⟨?_, ?_⟩; (k_is)
      refine List.forall_mem_cons.mpr ⟨?_, ?_⟩; (k_is)
      exact fun _ h => nomatch h
    (case F_il => k_is); (case F_ic => k_is); (case F_ik => k_is); (case F_i1 => k_is); (case F_i2 => k_is)
    (case F__repr___at => k_is); (case F__repr___fn => k_is); (case F__repr___kp => k_is); (case F__repr___l => k_is); (case F__repr___c => k_is)
    (case S_ns => k_is); (case S_pg => k_is); (case S_hd => k_is); (case S_po => k_is); (case S_sa => k_is); (case S_mk => k_is); (case S_ini => k_is); (case S_ifn => k_is); (case S_kp => k_is); (case S_ha => k_is); (case S_hm => k_is); (case S_kit => kit_is); (case S_kat => k_is); (case S_kget => k_is); (case S_krd => k_is); (case S_kga => k_is); (case S_kcl => k_is); (case S_hn => k_is); (case S_htk => k_is)
    case S_na =>
      refine List.forall_mem_cons.mpr ⟨?_, ?_⟩; (k_is)
      refine List.forall_mem_cons.mpr ⟨?_, ?_⟩; (k_is)
      refine List.forall_mem_cons.mpr ⟨?_, ?_⟩; (k_is)
      refine List.forall_mem_cons.mpr ⟨?_, ?_⟩; (k_is)
      refine List.forall_mem_cons.mpr ⟨?_, ?_⟩; (k_is)
      exact fun _ h => nomatch h
    (case S_il => k_is); (case S_ic => k_is); (case S_ik => k_is); (case S_i1 => k_is); (case S_i2 => k_is)
    (case S__repr___at => k_is); (case S__repr___fn => k_is); (case S__repr___kp => k_is); (case S__repr___l => k_is); (case S__repr___c => k_is)
    (case D_ns => k_is); (case D_pg => k_is); (case D_hd => k_is); (case D_po => k_is); (case D_sa => k_is); (case D_mk => k_is); (case D_ini => k_is); (case D_ifn => k_is); (case D_kp => k_is); (case D_ha => k_is); (case D_hm => k_is); (case D_kit => kit_is); (case D_kat => k_is); (case D_kget => k_is); (case D_krd => k_is); (case D_kga => k_is); (case D_kcl => k_is); (case D_hn => k_is); (case D_htk => k_is)
    case D_na =>
      refine List.forall_mem_cons.mpr ⟨?_, ?_⟩; (k_is)
      refine List.forall_mem_cons.mpr ⟨?_, ?_⟩; (k_is)
      refine List.forall_mem_cons.mpr ⟨?_, ?_⟩; (k_is)
      exact fun _ h => nomatch h
    (case D_il => k_is); (case D_ic => k_is); (case D_ik => k_is); (case D_i1 => k_is); (case D_i2 => k_is)
    (case D__repr___at => k_is); (case D__repr___fn => k_is); (case D__repr___kp => k_is); (case D__repr___l => k_is); (case D__repr___c => k_is)
    (case Y_ns => k_is); (case Y_pg => k_is); (case Y_hd => k_is); (case Y_po => k_is); (case Y_sa => k_is); (case Y_mk => k_is); (case Y_ini => k_is); (case Y_ifn => k_is); (case Y_kp => k_is); (case Y_ha => k_is); (case Y_hm => k_is); (case Y_kit => kit_is); (case Y_kat => k_is); (case Y_kget => k_is); (case Y_krd => k_is); (case Y_kga => k_is); (case Y_kcl => k_is); (case Y_hn => k_is); (case Y_htk => k_is)
    case Y_na =>
      refine List.forall_mem_cons.mpr ⟨?_, ?_⟩; (k_is)
      refine List.forall_mem_cons.mpr ⟨?_, ?_⟩; (k_is)
      refine List.forall_mem_cons.mpr ⟨?_, ?_⟩; (k_is)
      refine List.forall_mem_cons.mpr ⟨?_, ?_⟩; (k_is)
      exact fun _ h => nomatch h
    (case Y_il => k_is); (case Y_ic => k_is); (case Y_ik => k_is); (case Y_i1 => k_is); (case Y_i2 => k_is)
    (case Y__repr___at => k_is); (case Y__repr___fn => k_is); (case Y__repr___kp => k_is); (case Y__repr___l => k_is); (case Y__repr___c => k_is)
    (case L_ns => k_is); (case L_pg => k_is); (case L_hd => k_is); (case L_po => k_is); (case L_sa => k_is); (case L_mk => k_is); (case L_ini => k_is); (case L_ifn => k_is); (case L_kp => k_is); (case L_ha => k_is); (case L_hm => k_is); (case L_kit => kit_is); (case L_kat => k_is); (case L_kget => k_is); (case L_krd => k_is); (case L_kga => k_is); (case L_kcl => k_is); (case L_hn => k_is); (case L_htk => k_is)
    case L_na =>
      refine List.forall_mem_cons.mpr ⟨?_, ?_⟩; (k_is)
      refine List.forall_mem_cons.mpr ⟨?_, ?_⟩; (k_is)
      refine List.forall_mem_cons.mpr ⟨?_, ?_⟩; (k_is)
      refine List.forall_mem_cons.mpr ⟨?_, ?_⟩; (k_is)
      exact fun _ h => nomatch h
    (case L_il => k_is); (case L_ic => k_is); (case L_ik => k_is); (case L_i1 => k_is); (case L_i2 => k_is)
    (case L__repr___at => k_is); (case L__repr___fn => k_is); (case L__repr___kp => k_is); (case L__repr___l => k_is); (case L__repr___c => k_is)
    (case qF_eq => k_is); (case qF_fn => k_is); (case qF_ne => k_is); (case qF_ob => k_is); (case qF_dN => k_is); (case qF_dS => k_is); (case qF_dL => k_is); (case qF_dT => k_is); (case qF_kN_kit => kit_is); (case qF_kS_kit => kit_is); (case qF_kL_kit => kit_is); (case qF_kT_kit => kit_is)
    (case F_eq_at => k_is); (case F_eq_fn => k_is); (case F_eq_kp => k_is); (case F_eq_l => k_is); (case F_eq_c => k_is)
    (case qS_eq => k_is); (case qS_fn => k_is); (case qS_ne => k_is); (case qS_ob => k_is); (case qS_dN => k_is); (case qS_dS => k_is); (case qS_dL => k_is); (case qS_dT => k_is); (case qS_kN_kit => kit_is); (case qS_kS_kit => kit_is); (case qS_kL_kit => kit_is); (case qS_kT_kit => kit_is)
    (case S_eq_at => k_is); (case S_eq_fn => k_is); (case S_eq_kp => k_is); (case S_eq_l => k_is); (case S_eq_c => k_is)
    (case qD_eq => k_is); (case qD_fn => k_is); (case qD_ne => k_is); (case qD_ob => k_is); (case qD_dN => k_is); (case qD_dS => k_is); (case qD_dL => k_is); (case qD_dT => k_is); (case qD_kN_kit => kit_is); (case qD_kS_kit => kit_is); (case qD_kL_kit => kit_is); (case qD_kT_kit => kit_is)
    (case D_eq_at => k_is); (case D_eq_fn => k_is); (case D_eq_kp => k_is); (case D_eq_l => k_is); (case D_eq_c => k_is)
    (case qY_eq => k_is); (case qY_fn => k_is); (case qY_ne => k_is); (case qY_ob => k_is); (case qY_dN => k_is); (case qY_dS => k_is); (case qY_dL => k_is); (case qY_dT => k_is); (case qY_kN_kit => kit_is); (case qY_kS_kit => kit_is); (case qY_kL_kit => kit_is); (case qY_kT_kit => kit_is)
    (case Y_eq_at => k_is); (case Y_eq_fn => k_is); (case Y_eq_kp => k_is); (case Y_eq_l => k_is); (case Y_eq_c => k_is)
    (case qL_eq => k_is); (case qL_fn => k_is); (case qL_ne => k_is); (case qL_ob => k_is); (case qL_dN => k_is); (case qL_dS => k_is); (case qL_dL => k_is); (case qL_dT => k_is); (case qL_kN_kit => kit_is); (case qL_kS_kit => kit_is); (case qL_kL_kit => kit_is); (case qL_kT_kit => kit_is)
    (case L_eq_at => k_is); (case L_eq_fn => k_is); (case L_eq_kp => k_is); (case L_eq_l => k_is); (case L_eq_c => k_is)
    case nf =>
      refine List.forall_mem_cons.mpr ⟨?_, ?_⟩
      · refine List.forall_mem_cons.mpr ⟨?_, ?_⟩; (k_is); refine List.forall_mem_cons.mpr ⟨?_, ?_⟩; (k_is); refine List.forall_mem_cons.mpr ⟨?_, ?_⟩; (k_is); refine List.forall_mem_cons.mpr ⟨?_, ?_⟩; (k_is); refine List.forall_mem_cons.mpr ⟨?_, ?_⟩; (k_is); exact fun _ h => nomatch h
      refine List.forall_mem_cons.mpr ⟨?_, ?_⟩
      · refine List.forall_mem_cons.mpr ⟨?_, ?_⟩; (k_is); refine List.forall_mem_cons.mpr ⟨?_, ?_⟩; (k_is); refine List.forall_mem_cons.mpr ⟨?_, ?_⟩; (k_is); refine List.forall_mem_cons.mpr ⟨?_, ?_⟩; (k_is); refine List.forall_mem_cons.mpr ⟨?_, ?_⟩; (k_is); exact fun _ h => nomatch h
      refine List.forall_mem_cons.mpr ⟨?_, ?_⟩
      · refine List.forall_mem_cons.mpr ⟨?_, ?_⟩; (k_is); refine List.forall_mem_cons.mpr ⟨?_, ?_⟩; (k_is); refine List.forall_mem_cons.mpr ⟨?_, ?_⟩; (k_is); refine List.forall_mem_cons.mpr ⟨?_, ?_⟩; (k_is); refine List.forall_mem_cons.mpr ⟨?_, ?_⟩; (k_is); exact fun _ h => nomatch h
      refine List.forall_mem_cons.mpr ⟨?_, ?_⟩
      · refine List.forall_mem_cons.mpr ⟨?_, ?_⟩; (k_is); refine List.forall_mem_cons.mpr ⟨?_, ?_⟩; (k_is); refine List.forall_mem_cons.mpr ⟨?_, ?_⟩; (k_is); refine List.forall_mem_cons.mpr ⟨?_, ?_⟩; (k_is); refine List.forall_mem_cons.mpr ⟨?_, ?_⟩; (k_is); exact fun _ h => nomatch h
      refine List.forall_mem_cons.mpr ⟨?_, ?_⟩
      · refine List.forall_mem_cons.mpr ⟨?_, ?_⟩; (k_is); refine List.forall_mem_cons.mpr ⟨?_, ?_⟩; (k_is); refine List.forall_mem_cons.mpr ⟨?_, ?_⟩; (k_is); refine List.forall_mem_cons.mpr ⟨?_, ?_⟩; (k_is); refine List.forall_mem_cons.mpr ⟨?_, ?_⟩; (k_is); exact fun _ h => nomatch h
      exact fun _ h => nomatch h
    case ki =>
      unfold Th.Cs.off
      refine List.forall_mem_cons.mpr ⟨?_, ?_⟩; (kit_is)
      refine List.forall_mem_cons.mpr ⟨?_, ?_⟩; (kit_is)
      refine List.forall_mem_cons.mpr ⟨?_, ?_⟩; (kit_is)
      refine List.forall_mem_cons.mpr ⟨?_, ?_⟩; (kit_is)
      refine List.forall_mem_cons.mpr ⟨?_, ?_⟩; (kit_is)
      refine List.forall_mem_cons.mpr ⟨?_, ?_⟩; (kit_is)
      refine List.forall_mem_cons.mpr ⟨?_, ?_⟩; (kit_is)
      refine List.forall_mem_cons.mpr ⟨?_, ?_⟩; (kit_is)
      refine List.forall_mem_cons.mpr ⟨?_, ?_⟩; (kit_is)
      refine List.forall_mem_cons.mpr ⟨?_, ?_⟩; (kit_is)
      refine List.forall_mem_cons.mpr ⟨?_, ?_⟩; (kit_is)
      refine List.forall_mem_cons.mpr ⟨?_, ?_⟩; (kit_is)
      refine List.forall_mem_cons.mpr ⟨?_, ?_⟩; (kit_is)
      refine List.forall_mem_cons.mpr ⟨?_, ?_⟩; (kit_is)
      refine List.forall_mem_cons.mpr ⟨?_, ?_⟩; (kit_is)
      refine List.forall_mem_cons.mpr ⟨?_, ?_⟩; (kit_is)
      refine List.forall_mem_cons.mpr ⟨?_, ?_⟩; (kit_is)
      refine List.forall_mem_cons.mpr ⟨?_, ?_⟩; (kit_is)
      refine List.forall_mem_cons.mpr ⟨?_, ?_⟩; (kit_is)
      refine List.forall_mem_cons.mpr ⟨?_, ?_⟩; (kit_is)
      exact fun _ h => nomatch h
    case z =>
      refine List.forall_mem_cons.mpr ⟨?_, ?_⟩; (k_is)
      refine List.forall_mem_cons.mpr ⟨?_, ?_⟩; (k_is)
      refine List.forall_mem_cons.mpr ⟨?_, ?_⟩; (k_is)
      refine List.forall_mem_cons.mpr ⟨?_, ?_⟩; (k_is)
      refine List.forall_mem_cons.mpr ⟨?_, ?_⟩; (k_is)
      refine List.forall_mem_cons.mpr ⟨?_, ?_⟩; (k_is)
      refine List.forall_mem_cons.mpr ⟨?_, ?_⟩; (k_is)
      refine List.forall_mem_cons.mpr ⟨?_, ?_⟩; (k_is)
      refine List.forall_mem_cons.mpr ⟨?_, ?_⟩; (k_is)
      refine List.forall_mem_cons.mpr ⟨?_, ?_⟩; (k_is)
      refine List.forall_mem_cons.mpr ⟨?_, ?_⟩; (k_is)
      refine List.forall_mem_cons.mpr ⟨?_, ?_⟩; (k_is)
      refine List.forall_mem_cons.mpr ⟨?_, ?_⟩; (k_is)
      refine List.forall_mem_cons.mpr ⟨?_, ?_⟩; (k_is)
      refine List.forall_mem_cons.mpr ⟨?_, ?_⟩; (k_is)
      exact fun _ h => nomatch h
