import PyProof.Rows.All
import Wide.All
import OpenK.AllK
import Wide.FinOn
import HandS.ForMost
import HandS.IsInst
import HandS.Flow
import HandS.Wide
import HandS.Defaults
import HandS.Codes
import HandS.Bytes
import HandS.StrMore
import HandS.Walk
import HandS.More
import HandS.Conv
import HandS.Style
import HandS.FStr
import HandS.Star
import HandS.MakeKwOnly
import HandS.BytesMake
import KE.KBytesNew
import KE.KStrBytes
import KE.KxField
import PyProof.FString3
import HandS.MapSum
import KE.BytesMulAny
import PyProof.Rows.SumAny
import PyProof.ListStr
import Wide.BytesRules
import PyProof.CallFns
import HandS.RaiseMore
import HandS.WordsExc
import HandS.TryOnly
import HandS.ExcInit
import HandS.ExcField
import KE.KExcIs
import KE.KExcInit
import KE.KExcLine
import PyProof.ExcBaseAll.OverflowError
import PyProof.ExcBaseAll.TypeError
import PyProof.ExcBaseAll.ValueError
import PyProof.ExcBaseAll.RuntimeError
import PyProof.ExcBaseAll.IndexError
import PyProof.ExcBaseAll.LookupError
import PySem.Challenge.RW_tarhouse_k05_headers_built
set_option Elab.async false
set_option linter.all false
set_option maxRecDepth 100000
set_option maxHeartbeats 8000000
namespace Th
open PySem PySem.Spec PyProof.Rows L2
section
variable {K : PySem.W.Frag} {σ : L2.St} {H : Hp} {Q : VK} {D : Ends} {t u : TS} {c : TT} {te ta tb tx : TE} {g : TG} {r r' : R2} {v x y : V} {i : Nat} {to tp : TO}
theorem r_seq (h : t { D with nx := u D } σ H) : tSeq t u D σ H := h
theorem r_if (h : c σ H fun b H1 => if b = true then t D σ H1 else u D σ H1) : tIfS c t u D σ H := h
theorem r_asg (h : te σ H fun x H1 => g x σ H1 D.nx) : tAsg te g D σ H := h
theorem r_ret (h : te σ H D.rt) : tRet te D σ H := h
theorem r_next (h : D.nx σ H) : tNext D σ H := h
theorem r_drop (h : te σ H fun _ H1 => D.nx σ H1) : tDrop te D σ H := h
theorem r_cont (h : D.ct σ H) : tCont D σ H := h
theorem r_brk (h : D.bk σ H) : tBreak D σ H := h
theorem r_gname {Q : L2.St → Hp → Prop} (h : Q (σ.set i (some v)) H) : gName i v σ H Q := h
theorem r_var (e : σ[i]? = some (some v)) (h : Q v H) : tVar i σ H Q := ⟨v, e, h⟩
theorem r_c (h : Q v H) : tC v σ H Q := h
theorem r_op (h : ta σ H fun x H1 => tb σ H1 fun y H2 => r x y H2 Q) : tOp r ta tb σ H Q := h
theorem r_un {r : V → Hp → VK → Prop} (h : ta σ H fun x H1 => r x H1 Q) : tUn r ta σ H Q := h
theorem r_neg {i : Int} (h : Q (.int (-i)) H) : rU (fun i => .int (-i)) (.int i) H Q := ⟨i, rfl, h⟩
theorem r_I0 {g : Int → Int → V} {i j : Int} (h : Q (g i j) H) : rI0 g (.int i) (.int j) H Q := ⟨i, j, rfl, rfl, h⟩
theorem r_I {C : Int → Int → Prop} {g : Int → Int → V} {i j : Int} (hc : C i j) (h : Q (g i j) H) : rI C g (.int i) (.int j) H Q := ⟨i, j, rfl, rfl, hc, h⟩
theorem r_test {t : TE} {Q : Bool → Hp → Prop} (h : t σ H fun x H' => ∃ k, x = .bl k ∧ Q k H') : tTest t σ H Q := h
theorem r_tB {t : TE} {Q : Bool → Hp → Prop} (h : t σ H fun x H' => ∃ k, x = .bl k ∧ Q k H') : tB t σ H Q := h
theorem r_bl {b : Bool} {P : Bool → Prop} (h : P b) : ∃ k, V.bl b = .bl k ∧ P k := ⟨b, rfl, h⟩
theorem r_not {t : TT} {Q : Bool → Hp → Prop} (h : t σ H fun c H1 => Q (!c) H1) : tNot t σ H Q := h
theorem r_and {t u : TT} {Q : Bool → Hp → Prop} (h : t σ H fun c H1 => if c = true then u σ H1 Q else Q false H1) : tAnd t u σ H Q := h
theorem r_or {t u : TT} {Q : Bool → Hp → Prop} (h : t σ H fun c H1 => if c = true then Q true H1 else u σ H1 Q) : tOr t u σ H Q := h
theorem r_ifE {t : TT} (h : t σ H fun c H1 => if c = true then ta σ H1 Q else tb σ H1 Q) : tIf t ta tb σ H Q := h
theorem r_notV {t : TE} (h : t σ H fun x H1 => ∃ k, x = .bl k ∧ Q (.bl (!k)) H1) : tNotV t σ H Q := h
theorem r_andV (h : ta σ H fun x H1 => ∃ k, x = .bl k ∧ if k = true then tb σ H1 Q else Q (.bl false) H1) : tAndV ta tb σ H Q := h
theorem r_orV (h : ta σ H fun x H1 => ∃ k, x = .bl k ∧ if k = true then Q (.bl true) H1 else tb σ H1 Q) : tOrV ta tb σ H Q := h
theorem r_chain (h : ta σ H fun x H1 => tb σ H1 fun y H2 => r x y H2 fun z H3 => ∃ k, z = .bl k ∧ (if k = true then tx σ H3 fun w' H4 => r' y w' H4 Q else Q (.bl false) H3)) : tChain r r' ta tb tx σ H Q := h
theorem r_iteD {p A B : Prop} [Decidable p] (h1 : p → A) (h2 : ¬ p → B) : if decide p = true then A else B := by
  by_cases h : p
  · rw [if_pos (decide_eq_true h)]; exact h1 h
  · rw [if_neg (by rw [decide_eq_false h]; exact Bool.false_ne_true)]; exact h2 h
theorem r_iteT {A B : Prop} (h : A) : if true = true then A else B := by rw [if_pos rfl]; exact h
theorem r_iteF {A B : Prop} (h : B) : if false = true then A else B := by rw [if_neg Bool.false_ne_true]; exact h
theorem r_iteB {b : Bool} {A B : Prop} (h1 : b = true → A) (h2 : b = false → B) : if b = true then A else B := by
  cases b with
  | true => exact r_iteT (h1 rfl)
  | false => exact r_iteF (h2 rfl)
theorem r_iteNT {A B : Prop} (h : B) : if (!true) = true then A else B := by rw [if_neg (by decide)]; exact h
theorem r_iteNF {A B : Prop} (h : A) : if (!false) = true then A else B := by rw [if_pos (by decide)]; exact h
theorem r_iteN {b : Bool} {A B : Prop} (h1 : b = false → A) (h2 : b = true → B) : if (!b) = true then A else B := by
  cases b with
  | true => exact r_iteNT (h2 rfl)
  | false => exact r_iteNF (h1 rfl)
theorem r_cb {r : List V → Hp → VK → Prop} {t : TA} (h : t σ H fun vs H1 => r vs H1 Q) : tCB r t σ H Q := h
theorem r_call {sp : Sp} {dvs : List V} {E : XK} {t : TA} (h : t σ H fun vs H1 => sp (vs ++ dvs) H1 Q E) : tCall sp dvs E t σ H Q := h
theorem r_nil {Q : List V → Hp → Prop} (h : Q [] H) : tNil σ H Q := h
theorem r_cons {tr : TA} {Q : List V → Hp → Prop} (h : ta σ H fun x H1 => tr σ H1 fun xs H2 => Q (x :: xs) H2) : tCons ta tr σ H Q := h
theorem r_lst {t : TA} (h : t σ H fun xs H1 => xs.length ≤ sizeLine ∧ ∀ p, H1 p = none → Q (.ref p) (upd H1 p (.lst xs))) : tLst t σ H Q := h
theorem r_tup {t : TA} (h : t σ H fun xs H1 => xs.length ≤ sizeLine ∧ ∀ p, H1 p = none → Q (.ref p) (upd H1 p (.tup xs))) : tTup t σ H Q := h
theorem r_new {n m : Nat} {P : Prop} (h : n ≤ m) (q : P) : n ≤ m ∧ P := ⟨h, q⟩
theorem r_ixL {p : Addr} {xs : List V} {i : Int} {v : V} (hp : SqL K H p xs) (hi : atI xs i = some v) (h : Q v H) : rIxL K (.ref p) (.int i) H Q := ⟨p, xs, i, v, rfl, rfl, hp, hi, h⟩
theorem r_ixT {p : Addr} {xs : List V} {i : Int} {v : V} (hp : SqT K H p xs) (hi : atI xs i = some v) (h : Q v H) : rIxT K (.ref p) (.int i) H Q := ⟨p, xs, i, v, rfl, rfl, hp, hi, h⟩
theorem r_gsub {ti : TE} {t : TSet} {Q : L2.St → Hp → Prop} (h : ta σ H fun o H1 => ti σ H1 fun i H2 => t o i v H2 fun H3 => Q σ H3) : gSub ta ti t v σ H Q := h
theorem r_setL {p : Addr} {xs : List V} {k : Int} {j : Nat} {Q : Hp → Prop} (hp : H p = some (.lst xs)) (hk : ixN xs.length k = some j) (h : Q (upd H p (.lst (xs.set j v)))) : rSetL (.ref p) (.int k) v H Q := ⟨p, xs, k, j, rfl, rfl, hp, hk, h⟩
theorem r_int1 {i : Int} (h : Q (.int i) H) : (fun (xs : List V) H (Q : VK) => (∃ i, xs = [V.int i] ∧ Q (V.int i) H) ∨ ∃ k, xs = [V.bl k] ∧ Q (V.int (if k = true then 1 else 0)) H) [.int i] H Q := .inl ⟨i, rfl, h⟩
theorem r_int1' {i : Int} (h : Q (.int i) H) : (∃ j, [V.int i] = [V.int j] ∧ Q (V.int j) H) ∨ ∃ k, [V.int i] = [V.bl k] ∧ Q (V.int (if k = true then 1 else 0)) H := .inl ⟨i, rfl, h⟩
/-! ### heaps -/
theorem upd_old {p a : Addr} {o x : HO} (hp : H p = none) (ha : H a = some x) : upd H p o a = some x := by rw [upd_ne (ne_of_none ha hp)]; exact ha
theorem upd_diff {p a : Addr} {o x : HO} (n : a ≠ p) (ha : H a = some x) : upd H p o a = some x := by rw [upd_ne n]; exact ha
/-- what is not at a stays -/
def But (a : Addr) (H H' : Hp) : Prop := ∀ b o, b ≠ a → H b = some o → H' b = some o
end
end Th
namespace Th
open PySem PySem.Spec PyProof.Rows L2
/-! ### calls of own defs, by one fact each -/
structure CalT (P : Program) (w : World) (K : PySem.W.Frag) (mg : Str → Option Value) (base : Heap) (k : Nat) (x : Str) (sp : Sp) : Prop where
  ex : ∃ (f : Addr) (fd : FuncData) (ps : List Str), FnOk P w K mg base CX0 k f fd ps sp ∧ mg x = some (.ref f) ∧ PySem.W.keepIn K (.ref f) = true ∧ Binds K fd ps []
structure CalK (P : Program) (w : World) (K : PySem.W.Frag) (mg : Str → Option Value) (base : Heap) (k : Nat) (x : Str) (ks : List Str) (sp : Sp) : Prop where
  ex : ∃ (f : Addr) (fd : FuncData) (ps : List Str), FnOk P w K mg base CX0 k f fd ps sp ∧ mg x = some (.ref f) ∧ PySem.W.keepIn K (.ref f) = true ∧ KBn K fd ps 0 ks (fun us ws => us ++ ws) (fun us ws => us ++ ws)
section
variable {X : Cx} {j k : Nat} {x : Str} {sp : Sp} {e : Expr} {es : List Expr} {p pos : Pos} {t tk : TA} {ks : List Str} {kws : List Keyword}
theorem pe_cc (c : CalT X.prog X.w X.K X.mg X.base k x sp) (hr : Room j X.A) (hk : k ≤ j) (hg : Gl X x) (ha : PA X (e :: es) t) (hdb : (x == ("__debug__" : Str)) = false := by decide)
    (he : starEach (e :: es) X.env = (false, eval e X.env) :: starEach es X.env := by rfl) (hpl : (backTo pos (starEach es X.env)).any (·.1) = false := by rfl) : PE X (.Call (.Name x p) (e :: es) [] pos) (tCall sp [] E0 t) := by
  obtain ⟨f, fd, ps, F, hm, kp, b⟩ := c.ex
  exact pe_call F (hr.mono hk) hg hm kp b .nil pass0 ha hdb he hpl
theorem pe_cc0 (c : CalT X.prog X.w X.K X.mg X.base k x sp) (hr : Room j X.A) (hk : k ≤ j) (hg : Gl X x) (hdb : (x == ("__debug__" : Str)) = false := by decide) : PE X (.Call (.Name x p) [] [] pos) (tCall sp [] E0 tNil) := by
  obtain ⟨f, fd, ps, F, hm, kp, b⟩ := c.ex
  exact pe_call0 F (hr.mono hk) hg hm kp b .nil pass0 hdb
/-- f(k = v, ..) -/
theorem pe_ck0 (c : CalK X.prog X.w X.K X.mg X.base k x ks sp) (hr : Room j X.A) (hk : k ≤ j) (hg : Gl X x) (hkw : PK X kws tk)
    (hall : (backToKw pos (keywordEach kws X.env)).all (·.1.isSome) = true := by rfl) (hks : (backToKw pos (keywordEach kws X.env)).filterMap (·.1) = ks := by rfl) (hdb : (x == ("__debug__" : Str)) = false := by decide)
    (hpl : ((backTo pos (starEach [] X.env)).any (·.1) || (backToKw pos (keywordEach kws X.env)).any (·.1.isNone)) = false := by rfl) :
    PE X (.Call (.Name x p) [] kws pos) (tCallN 0 ks.length sp (fun us ws => us ++ ws) E0 tNil tk) := by
  obtain ⟨f, fd, ps, F, hm, kp, b⟩ := c.ex
  constructor
  intro pins s σ H Q I h
  refine wpAny_Call_Name_kw (ld_glob I hg hm ?_ hdb)
  refine PySem.W.callWith_KW0 (h₀ := X.base) I.ok.mod.kin kp hall (thn (hkw.run pos pins s σ H _ I h) ?_) hpl
  rintro ws s2 ⟨zs, H2, I2, rz, l1, l2, q2⟩
  refine ⟨I2.kIn, ?_⟩
  rw [hks]
  exact run_fnN (us := []) (vs := []) F (hr.mono hk) b pass0 I2 .nil rz rfl l2 q2
end
section
variable {K : PySem.W.Frag} {σ : L2.St} {H : Hp} {Q : VK}
theorem r_callN {n m : Nat} {sp : Sp} {gV : List V → List V → List V} {E : XK} {t tk : TA} (h : t σ H fun vs H1 => tk σ H1 fun zs H2 => vs.length = n ∧ zs.length = m ∧ sp (gV vs zs) H2 Q E) : tCallN n m sp gV E t tk σ H Q := h
/-! ### built-in functions, by names -/
def rInt1 : List V → Hp → VK → Prop := fun xs H Q => ∃ i, xs = [.int i] ∧ Q (.int i) H
theorem call_rInt1 {X : Cx} : CallR X (.type "int") rInt1 := fun pins s σ H xs us Q I r h => call_int1 pins s σ H xs us Q I r (.inl h)
theorem r_rInt1 {i : Int} (h : Q (.int i) H) : rInt1 [.int i] H Q := ⟨i, rfl, h⟩
def rIntB : List V → Hp → VK → Prop := fun xs H Q => ∃ i, xs = [.bl i] ∧ Q (.int (if i then 1 else 0)) H
theorem call_rIntB {X : Cx} : CallR X (.type "int") rIntB := fun pins s σ H xs us Q I r h => call_int1 pins s σ H xs us Q I r (.inr h)
theorem r_rIntB {i : Bool} (h : Q (.int (if i then 1 else 0)) H) : rIntB [.bl i] H Q := ⟨i, rfl, h⟩
def rAbs : List V → Hp → VK → Prop := fun xs H Q => ∃ i, xs = [.int i] ∧ Q (.int (if i < 0 then -i else i)) H
theorem call_rAbs {X : Cx} : CallR X (.builtin "abs") rAbs := call_abs
theorem r_rAbs {i : Int} (h : Q (.int (if i < 0 then -i else i)) H) : rAbs [.int i] H Q := ⟨i, rfl, h⟩
def rMin2 : List V → Hp → VK → Prop := fun xs H Q => ∃ i j, xs = [.int i, .int j] ∧ Q (.int (if j < i then j else i)) H
theorem call_rMin2 {X : Cx} (hc : X.calm = true := by rfl) : CallR X (.builtin "min") rMin2 := call_min2 hc
theorem r_rMin2 {i j : Int} (h : Q (.int (if j < i then j else i)) H) : rMin2 [.int i, .int j] H Q := ⟨i, j, rfl, h⟩
def rMax2 : List V → Hp → VK → Prop := fun xs H Q => ∃ i j, xs = [.int i, .int j] ∧ Q (.int (if j > i then j else i)) H
theorem call_rMax2 {X : Cx} (hc : X.calm = true := by rfl) : CallR X (.builtin "max") rMax2 := call_max2 hc
theorem r_rMax2 {i j : Int} (h : Q (.int (if j > i then j else i)) H) : rMax2 [.int i, .int j] H Q := ⟨i, j, rfl, h⟩
def rLenQ (K : PySem.W.Frag) : List V → Hp → VK → Prop := fun xs H Q => ∃ p ys, xs = [.ref p] ∧ (SqL K H p ys ∨ SqT K H p ys) ∧ Q (.int ys.length) H
theorem call_rLenQ {X : Cx} : CallR X (.builtin "len") (rLenQ X.K) := call_len_seq
theorem r_rLenQ {p : Addr} {ys : List V} (hp : SqL K H p ys ∨ SqT K H p ys) (h : Q (.int ys.length) H) : rLenQ K [.ref p] H Q := ⟨p, ys, rfl, hp, h⟩
def rLenZ : List V → Hp → VK → Prop := fun xs H Q => ∃ z, xs = [.str z] ∧ z.length ≤ sizeLine ∧ Q (.int z.length) H
theorem call_rLenZ {X : Cx} : CallR X (.builtin "len") rLenZ := call_len_str
theorem r_rLenZ {z : Str} (hz : z.length ≤ sizeLine) (h : Q (.int z.length) H) : rLenZ [.str z] H Q := ⟨z, rfl, hz, h⟩
def rAddZ : R2 := fun x y H Q => ∃ i j, x = .str i ∧ y = .str j ∧ i.length + j.length ≤ sizeLine ∧ Q (.str (i ++ j)) H
theorem op_addZ {X : Cx} : OpR X (binaryOp .Add) rAddZ := op_add_str
theorem r_addZ {i j : Str} (hz : i.length + j.length ≤ sizeLine) (h : Q (.str (i ++ j)) H) : rAddZ (.str i) (.str j) H Q := ⟨i, j, rfl, rfl, hz, h⟩
def rInC : R2 := fun x y H Q => ∃ (c : Nat) (z : Str), x = .str ⟨#[c]⟩ ∧ y = .str z ∧ Q (.bl (decide (c ∈ z.cps.toList))) H
theorem op_inSign {X : Cx} : OpR X (compareOp .In) rInC := op_in_sign
theorem r_inC {c : Nat} {z : Str} (h : Q (.bl (decide (c ∈ z.cps.toList))) H) : rInC (.str ⟨#[c]⟩) (.str z) H Q := ⟨c, z, rfl, rfl, h⟩
theorem r_eq {x y : V} (hs : scal x y = true) (h : Q (.bl (decide (x = y))) H) : rEq x y H Q := ⟨hs, h⟩
theorem r_ne {x y : V} (hs : scal x y = true) (h : Q (.bl (!decide (x = y))) H) : rNe x y H Q := ⟨hs, h⟩
theorem r_cat {l b : Addr} {xs zs : List V} (hl : H l = some (.lst xs)) (hb : H b = some (.lst zs)) (hz : xs.length + zs.length ≤ sizeLine) (h : ∀ p, H p = none → Q (.ref p) (upd H p (.lst (xs ++ zs)))) : rCat (.ref l) (.ref b) H Q := ⟨l, b, xs, zs, rfl, rfl, hl, hb, hz, h⟩
theorem r_rep {l : Addr} {k : Int} {xs : List V} (hl : H l = some (.lst xs)) (h0 : -(2 ^ 63) ≤ k) (h1 : k < 2 ^ 63) (hz : xs.length * k.toNat ≤ sizeLine) (h : ∀ p, H p = none → Q (.ref p) (upd H p (.lst (List.replicate k.toNat xs).flatten))) : rRep (.ref l) (.int k) H Q := ⟨l, k, xs, rfl, rfl, hl, h0, h1, hz, h⟩
theorem r_append {l : Addr} {xs : List V} {y : V} (hl : H l = some (.lst xs)) (hz : xs.length < sizeLine) (h : Q .non (upd H l (.lst (xs ++ [y])))) : rAppend (.ref l) [y] H Q := ⟨l, xs, y, rfl, rfl, hl, hz, h⟩
theorem r_bm {T : String} {r : V → List V → Hp → VK → Prop} {to : TE} {t : TA} (h : to σ H fun x H1 => tyV K T x H1 ∧ t σ H1 fun xs H2 => r x xs H2 Q) : tBM K T r to t σ H Q := h
theorem r_tyL {p : Addr} {xs : List V} {P : Prop} (hp : H p = some (.lst xs)) (h : P) : tyV K "list" (.ref p) H ∧ P := ⟨.inl ⟨rfl, _, SqL.of hp⟩, h⟩
theorem r_all {a : Addr} {bs : List Bool} (hp : SqL K H a (bs.map V.bl)) (h : Q (.bl (bs.all id)) H) : rAll K [.ref a] H Q := ⟨a, bs, rfl, hp, h⟩
theorem r_any {a : Addr} {bs : List Bool} (hp : SqL K H a (bs.map V.bl)) (h : Q (.bl (bs.any id)) H) : rAny K [.ref a] H Q := ⟨a, bs, rfl, hp, h⟩
theorem call_all {X : Cx} (hc : X.calm = true := by rfl) : CallR X (.builtin "all") (rAll X.K) := cr_all hc
theorem call_any {X : Cx} (hc : X.calm = true := by rfl) : CallR X (.builtin "any") (rAny X.K) := cr_any hc
end
end Th
namespace Th
open PySem PySem.Spec PyProof.Rows L2
/-! ### a def that may lean on it that nothing is being shown (repr of a list, a tuple, a dict) -/
structure FnG (P : Program) (w : World) (K : PySem.W.Frag) (mg : Str → Option Value) (base : Heap) (k : Nat) (f : Addr) (fd : FuncData) (ps : List Str) (sp : Sp) : Prop where
  len : ∀ vs H Q E, sp vs H Q E → vs.length = ps.length
  run : ∀ (A : Around) (outer : List Env) (s : Shared) (H : Hp) (args : Args) (us : List Value) (vs : List V) (Q : VK) (E : XK), Room k A → A.guards = some [] →
    Env0 P w K mg base A outer s H → BindsTo s fd args (ps.zip us) → Vals vs us → sp vs H Q E → codeAny (model P w) A (.call (.ref f) args) (CR CX0 outer P w H s Q E) s
section
variable {P : Program} {w : World} {K : PySem.W.Frag} {mg : Str → Option Value} {base : Heap}
theorem Fun.okG {x qual : Str} {st : Stmt} {f : Addr} {fd : FuncData} {N ps : List Str} {k : Nat} {sp : Sp} (F : Fun K x qual st f fd) (S : FnScope N ps (defScope st)) (hlen : ∀ vs H Q E, sp vs H Q E → vs.length = ps.length)
    (body : ∀ (cdv : Value) (A : Around) (outer : List Env) (s : Shared) (H : Hp) (vs : List V) (Q : VK) (E : XK), Room k (A.deeper (envOfC qual (defScope st) s.heap.objs.size f cdv)) → A.guards = some [] → sp vs H Q E →
      ∃ t, PSs (cxOf CX0 P w K mg base N qual (defScope st) f cdv A outer s H E).nox (defBody st) t ∧ t { nx := fun _ H' => Q .non H', rt := Q } (start N vs) H) : FnG P w K mg base (k + 1) f fd ps sp := by
  obtain ⟨oc, od, kV, doc, pm, an, cdv, ct, osl, e, lk, hcd⟩ := F.ex
  subst e
  constructor
  · exact hlen
  · intro A outer s H args us vs Q E room gd env0 bnd rel wish
    have stands : ∀ b o, base.get? b = some o → s.heap.get? b = some o := fun b o e => (env0.bs b o e).1
    have kin := env0.mod.kin.keeps stands
    have nol := env0.mod.nolimit.keeps stands
    apply codeAny_call_function room.depth (kin _ _ lk) rfl S.co S.gen rfl (PySem.W.codeRec_of kin hcd)
    refine bnd _ _ _ _ (wpAny_newFunctionEnv_cells S.kind ?kinds ?go)
    case kinds =>
      rintro ⟨n, v⟩ hy
      cases S.par n (List.of_mem_zip hy).1 with
      | inl q => exact Or.inl q
      | inr q => exact Or.inr ⟨q, PySem.W.cellsFrom_some _ _ _ (Or.inl q)⟩
    case go =>
      intro env he s1 inside
      subst he
      refine ⟨nol.keeps inside.toInCall.keep, codeAny_func ?_⟩
      obtain ⟨t, derived, wished⟩ := body cdv A outer s H vs Q E (room.deeper _) gd wish
      have J := inv_start (CX := CX0) (E := E) S room.hd env0 (hlen _ _ _ _ wish) rel inside
      refine wpAny_mono (derived.nox.run [] s1 _ H _ J wished) ?_ (fun e s' z => z)
      intro fl s' z
      cases fl with
      | next =>
        obtain ⟨σ', H', J', q⟩ := z
        exact ⟨V.non, H', J'.os, J'.bare, J'.base, J'.hok, rfl, q⟩
      | ret u =>
        obtain ⟨v, σ', H', J', rv, q⟩ := z
        exact ⟨v, H', J'.os, J'.bare, J'.base, J'.hok, rv, q⟩
      | brk =>
        obtain ⟨_, _, _, q⟩ := z
        exact q.elim
      | cont =>
        obtain ⟨_, _, _, q⟩ := z
        exact q.elim
/-- the law's own call -/
theorem lawG {k : Nat} {mb : Str → Option Value} {fa a : Addr} {fd : FuncData} {x : Str} {sp : Sp} {s₁ : Shared} {vs : List Value} {ns : List Int}
    (KX : K.In s₁.heap) (hns : s₁.heap.Ns mainGlobals mg) (hb : s₁.heap.Ns builtinsNs mb) (hbb : ∀ x : Str, x ≠ "__name__" → mb x = bootBuiltins x) (hlim : s₁.heap.NoLimit) (hg : s₁.gens = #[])
    (ha : s₁.heap.get? a = some { cls := .type "list", data := .seq vs.toArray }) (hi : IntsAre vs ns) (hl : ns.length ≤ sizeLine) (room : Room k callerA)
    (F : ∀ base : Heap, K.In base → base.Ns mainGlobals mg → FnG P w K mg base k fa fd [x] sp) (hbind : ∀ (s : Shared) (u : Value), BindsTo s fd ⟨[u], []⟩ [(x, u)])
    (hsp : ∀ H : Hp, Only H → SqL K H a (ns.map V.int) → sp [.ref a] H (fun v _ => v = .bl true) fun _ _ _ => False) :
    codeAny (model P w) callerA (.call (.ref fa) ⟨[.ref a], []⟩) (fun r s' => r = .ok (.ret (.bool true)) ∧ OldK s₁.heap s'.heap ∧ s'.os = s₁.os ∧ AllBare s'.gens) s₁ := by
  have rv : Vals (ns.map V.int) vs := vals_ints hi
  have hlen : vs.length = ns.length := by have := rv.length; rw [List.length_map] at this; omega
  have main : ∀ H : Hp, Only H → SqL K H a (ns.map V.int) → HOk P w H s₁.heap → (∀ b u, H b = some u → b = a) → (∀ u, H a = some u → K.lookup a = none) →
      codeAny (model P w) callerA (.call (.ref fa) ⟨[.ref a], []⟩) (fun r s' => r = .ok (.ret (.bool true)) ∧ OldK s₁.heap s'.heap ∧ s'.os = s₁.os ∧ AllBare s'.gens) s₁ := by
    intro H only sq hok onlyA notK
    have dictFree : ∀ (b : Addr) (o : Obj) (es : Array DictEntry) (ep : Nat), s₁.heap.get? b = some o → o.data = .dict es ep → H b = none := by
      intro b o es ep ho hd
      cases hq : H b with
      | none => rfl
      | some u =>
        rw [onlyA b u hq, ha] at ho
        cases ho
        exact nomatch hd
    have nsB : ∀ {b : Addr} {m : Str → Option Value}, s₁.heap.Ns b m → (hidT s₁.heap H).Ns b m := by
      rintro b m ⟨o, es, ep, ho, hd, rest⟩
      exact ⟨o, es, ep, hidT_get ho (dictFree b o es ep ho hd), hd, rest⟩
    have kB : K.In (hidT s₁.heap H) := by
      intro b o ho
      refine hidT_get (KX b o ho) ?_
      cases hq : H b with
      | none => rfl
      | some u =>
        have hba := onlyA b u hq
        rw [hba] at ho hq
        rw [notK u hq] at ho
        cases ho
    obtain ⟨mc, lim1, lim2⟩ := hlim
    have modl : Mod K mg (hidT s₁.heap H) := ⟨kB, nsB hns, ⟨mb, nsB hb, hbb⟩, ⟨mc, nsB lim1, lim2⟩⟩
    have noFr : ∀ b ∈ frs [], H b = none := fun b z => by cases z
    have E0' : Env0 P w K mg (hidT s₁.heap H) callerA [] s₁ H := ⟨rfl, modl, fun b o e => of_hidT e, by rw [hidT_size]; exact Nat.le_refl _, trivial, noFr, hok, .of_eq hg⟩
    have ran := (F _ kB (nsB hns)).run callerA [] s₁ H ⟨[.ref a], []⟩ [.ref a] [.ref a] _ _ room rfl E0' (hbind s₁ (.ref a)) (.cons rfl .nil) (hsp H only sq)
    refine codeAny_mono ran ?_
    intro r s' z
    cases r with
    | error e => exact False.elim z
    | ok fl =>
      cases fl with
      | ret u =>
        obtain ⟨v, H', os, bare, un, hok', rel, isT⟩ := z
        have isT' : v = .bl true := isT
        rw [isT'] at rel
        have hu : u = Value.bool true := rel
        refine ⟨by rw [hu], OldK.of_keep ?_, os, bare⟩
        intro b o ho
        cases hq : H b with
        | none => exact un.keep b o ho hq (fun z => by cases z) (fun z => by cases z)
        | some u2 =>
          cases only b with
          | inl z => rw [hq] at z; cases z
          | inr z =>
            obtain ⟨ob, xs, z⟩ := z
            have ⟨g1, _⟩ := hok b _ z
            have ⟨g2, _⟩ := hok' b _ (un.frzs b ob _ z)
            rw [ho] at g1
            cases g1
            exact g2
      | next => exact False.elim z
      | brk => exact False.elim z
      | cont => exact False.elim z
  by_cases hk : K.lookup a = none
  · let script : HO := .frz { cls := .type "list", data := .seq vs.toArray } (.lst (ns.map V.int))
    have atA : ∀ b u, (if b = a then some script else none) = some u → b = a ∧ u = script := by
      intro b u z
      by_cases e : b = a
      · rw [if_pos e] at z; cases z; exact ⟨e, rfl⟩
      · rw [if_neg e] at z; cases z
    refine main (fun b => if b = a then some script else none) ?_ (.inl (.inr ⟨_, if_pos rfl⟩)) ?_ (fun b u z => (atA b u z).1) (fun _ _ => hk)
    · intro b
      by_cases e : b = a
      · exact .inr ⟨_, _, if_pos e⟩
      · exact .inl (if_neg e)
    · intro b u z
      obtain ⟨e1, e2⟩ := atA b u z
      rw [e1, e2]
      exact ⟨ha, by rw [List.length_map]; exact hl, vs, _, rv, ha⟩
  · obtain ⟨o, ho⟩ : ∃ o, K.lookup a = some o := by
      cases q : K.lookup a with
      | none => exact absurd q hk
      | some o => exact ⟨o, rfl⟩
    have same := KX a o ho
    rw [ha] at same
    cases same
    exact main (fun _ => none) (fun _ => .inl rfl) (.inr ⟨_, vs.toArray, _, ho, rfl, rfl, rfl, by rw [List.size_toArray, hlen]; exact hl, rv⟩) (fun b u z => nomatch z) (fun b u z => nomatch z) (fun u z => nomatch z)
end
/-- the goal that k_head leaves, from the law's promise -/
theorem walkG {l : PySem.W.OpenLaw} {n k : Nat} {q : Program} {loose : List Str} {XP : (Str → Option Value) → Heap → Prop} {YP : World → Heap → Prop} {d : DefRec} {K : Params → PySem.W.Frag} {sp : World → Sp} {x : Str}
    (hn : l.most = some n) (hn2 : n ≤ sizeLine) (hdf : d.params.defaults = []) (room : Room k callerA) (hY : ∀ (w : World) (h : Heap), YP w h → (K w.params).In h)
    (F : ∀ (w : World) (mg : Str → Option Value) (fa : Addr) (h : Heap), (K w.params).In h → h.Ns mainGlobals mg → mg d.name = some (.ref fa) →
      ∃ fd : FuncData, (∀ (s : Shared) (u : Value), BindsTo s fd ⟨[u], []⟩ [(x, u)]) ∧ ∀ base : Heap, (K w.params).In base → base.Ns mainGlobals mg → FnG l.prog w (K w.params) mg base k fa fd [x] (sp w))
    (hsp : ∀ (w : World) (H : Hp) (a : Addr) (ns : List Int), ns.length ≤ n → Only H → SqL (K w.params) H a (ns.map V.int) → sp w [.ref a] H (fun v _ => v = .bl true) fun _ _ _ => False) :
    PySem.W.WalkO q loose XP YP l.row.toRowW d [] (fun f vs => PySem.call f vs) := by
  apply Att.attach_call hn hdf
  intro w s₀ s₁ mg mb fa o pm cd doc a vs ns G Y ho hd hcd hmg hobj hints hlen hg
  obtain ⟨fd, bnd, every⟩ := F w mg fa _ (hY w _ Y) G.T.g hmg
  exact lawG (hY w _ Y) G.T.g G.T.b G.T.builtins G.T.nolimit hg hobj hints (Nat.le_trans hlen hn2) room every bnd (fun H only sq => hsp w H a ns hlen only sq)
/-! ### repr of data -/
def rRepr (K : PySem.W.Frag) : List V → Hp → VK → Prop := fun xs H Q => ∃ a d, xs = [.ref a] ∧ Dp K H (.ref a) d ∧ d.showable = true ∧ d.hasDict = false ∧ d.depth < 60 ∧ d.shown.length ≤ sizeLine ∧ Q (.str d.shown) H
theorem call_rRepr {X : Cx} (gd : X.A.guards = some []) (hu : X.A.units + 64 < cLine) : CallR X (.builtin "repr") (rRepr X.K) := by
  intro pins s σ H xs us Q I r h
  obtain ⟨a, d, rfl, hd, h1, h2, h3, h4, q⟩ := h
  obtain ⟨u, rfl, rx⟩ := vals1 r
  obtain ⟨as, rd⟩ := Dp.reads I d _ u hd rx
  have hu' : u = Value.ref a := rx
  subst hu'
  refine repr_of_reads' rd h1 (fun z => by rw [h2] at z; cases z) gd (by omega) (fun b o e => e) (fun h' t tk kept => ?_) h4
  exact ⟨.str d.shown, H, I.kept kept, ⟨_, rfl⟩, q⟩
theorem r_repr {K : PySem.W.Frag} {H : Hp} {Q : VK} {a : Addr} {d : PyData} (hd : Dp K H (.ref a) d) (h1 : d.showable = true) (h2 : d.hasDict = false) (h3 : d.depth < 60) (h4 : d.shown.length ≤ sizeLine) (h : Q (.str d.shown) H) : rRepr K [.ref a] H Q := ⟨a, d, rfl, hd, h1, h2, h3, h4, h⟩
/-! ### a text times an int -/
theorem fold_rep (a : Array Nat) : ∀ (n : Nat) (acc : Array Nat), ((List.replicate n a).foldl (· ++ ·) acc).toList = acc.toList ++ (List.replicate n a.toList).flatten
  | 0, acc => by simp
  | n + 1, acc => by
    rw [List.replicate_succ, List.foldl_cons, fold_rep a n, List.replicate_succ, List.flatten_cons, Array.toList_append, List.append_assoc]
theorem fold_rep_size (a : Array Nat) (n : Nat) : ((List.replicate n a).foldl (· ++ ·) #[]).size = n * a.size := by
  have h := congrArg List.length (fold_rep a n #[])
  simpa using h
def repZ (z : Str) (k : Int) : Str := if k < 1 then Str.empty else if (k == 1 || z.length == 0) = true then z else ⟨(List.replicate k.toNat z.cps).foldl (· ++ ·) #[]⟩
def rMulZ : R2 := fun x y H Q => ∃ z k, x = .str z ∧ y = .int k ∧ z.length ≤ 1000 ∧ -(2 ^ 62) ≤ k ∧ k ≤ 5000 ∧ Q (.str (repZ z k)) H
theorem op_mulS {X : Cx} : OpR X (binaryOp .Mult) rMulZ := by
  intro pins s σ H x y v u Q I rx ry h
  obtain ⟨z, k, rfl, rfl, hz, h0, h1, q⟩ := h
  obtain ⟨t, rfl⟩ := rx
  obtain ⟨t', rfl⟩ := ry
  have hzi : (z.length : Int) ≤ 1000 := by omega
  refine PySem.P.mul_str ?_ (fun hk _ => ?_) (fun hk _ => ?_) ?_
  · rw [decide_eq_false (by omega : ¬ k < -(2 ^ 63 : Int)), decide_eq_false (by omega : ¬ k ≥ 2 ^ 63)]; rfl
  · intro hbig
    have hd : (5000 : Int) ≤ (2 ^ 63 - 1) / k := by
      rw [Int.le_ediv_iff_mul_le (by omega)]
      have : (5000 : Int) * k ≤ 5000 * 5000 := Int.mul_le_mul_of_nonneg_left h1 (by decide)
      omega
    omega
  · unfold Builtin.Str.tooLong
    rw [decide_eq_false]
    have hk5 : k.toNat ≤ 5000 := by omega
    have := Nat.mul_le_mul hz hk5
    rw [sizeLine_eq]
    omega
  · unfold repZ at q
    by_cases c1 : k < 1
    · rw [if_pos c1] at q ⊢
      exact ⟨by decide, ⟨.str _, H, I.tok _, ⟨_, rfl⟩, q⟩⟩
    · rw [if_neg c1] at q ⊢
      by_cases c2 : (k == 1 || z.length == 0) = true
      · rw [if_pos c2] at q ⊢
        exact ⟨.str z, H, I, ⟨t, rfl⟩, q⟩
      · rw [if_neg c2] at q ⊢
        refine ⟨?_, ⟨.str _, H, I.tok _, ⟨_, rfl⟩, q⟩⟩
        show ((List.replicate k.toNat z.cps).foldl (· ++ ·) #[]).size ≤ sizeLine
        rw [fold_rep_size]
        have hk5 : k.toNat ≤ 5000 := by omega
        have hz' : z.cps.size ≤ 1000 := hz
        have := Nat.mul_le_mul hk5 hz'
        rw [sizeLine_eq]
        omega
theorem repZ_list (z : Str) (k : Int) : (repZ z k).cps.toList = (List.replicate k.toNat z.cps.toList).flatten := by
  unfold repZ
  by_cases c1 : k < 1
  · rw [if_pos c1, show k.toNat = 0 by omega]; rfl
  · rw [if_neg c1]
    by_cases c2 : (k == 1 || z.length == 0) = true
    · rw [if_pos c2]
      simp only [Bool.or_eq_true, beq_iff_eq] at c2
      rcases c2 with c2 | c2
      · subst c2; simp
      · have e : z.cps.toList = [] := by
          have : z.cps.size = 0 := c2
          simpa using this
        rw [e]; simp
    · rw [if_neg c2]
      show ((List.replicate k.toNat z.cps).foldl (· ++ ·) #[]).toList = _
      rw [fold_rep]; rfl
theorem repZ_len (z : Str) (k : Int) : (repZ z k).length = k.toNat * z.length := by
  have h := congrArg List.length (repZ_list z k)
  simpa [Str.length] using h
theorem r_mulZ {H : Hp} {Q : VK} {z : Str} {k : Int} (hz : z.length ≤ 1000) (h0 : -(2 ^ 62) ≤ k) (h1 : k ≤ 5000) (h : Q (.str (repZ z k)) H) : rMulZ (.str z) (.int k) H Q := ⟨z, k, rfl, rfl, hz, h0, h1, h⟩
/-! ### comprehensions without a test, whose element only reads (and makes) -/
theorem same_new {H : Hp} {p : Addr} {o : HO} (h : H p = none) : Same H (upd H p o) := fun b u e => by rw [upd_ne (ne_of_none e h)]; exact e
theorem walk_strC {z : Str} : Walk (Its z) (z.cps.toList.map fun c => V.str ⟨#[c]⟩).length (fun _ => True) (YAt (z.cps.toList.map fun c => V.str ⟨#[c]⟩)) := by
  have e : (z.cps.toList.map fun c => V.str ⟨#[c]⟩).length = z.cps.size := by simp
  rw [e]
  refine walk_str.mono (fun _ h => h) ?_
  rintro i H x H' hi _ ⟨e1, c, hc, rfl⟩
  refine ⟨e1, ?_⟩
  rw [List.getElem?_map, Array.getElem?_toList, hc]
  rfl
theorem lc_map {α : Type} {J : It} {cs : List α} {enc f : α → V} {G : Hp → Prop} (w : Walk J (cs.map enc).length G (YAt (cs.map enc))) {j : Nat} {vs : List Nat} {σ : L2.St} {H1 : Hp} {D : Addr} {te : TE} {Qd : Hp → Prop}
    (hD : H1 D = none) (hz : cs.length < sizeLine) (hG : ∀ H', Same H1 H' → G H') (hw : ∀ x, wipe ((wipe σ vs).set j (some x)) vs = wipe σ vs)
    (he : ∀ c ∈ cs, ∀ H', Same H1 H' → ∀ Q : VK, (∀ H2, Same H' H2 → Q (f c) H2) → te ((wipe σ vs).set j (some (enc c))) H' Q)
    (hd : ∀ H', Same H1 H' → H' D = some (.lst (cs.map f)) → Qd H') :
    ∃ W : Nat → Nat → Hp → Prop, (∃ m, W 0 m (upd H1 D (.lst []))) ∧ ∀ i m H, W i m H →
      (J.stop i H ∧ Qd H) ∨ (J.go i H ∧ ∃ Nx : Hp → Prop, (∀ H', Nx H' → ∃ m', m' < m ∧ W (i + 1) m' H') ∧ ∀ x H', J.yld i H x H' → gName j x (wipe σ vs) H' fun σ2 H2 => wipe σ2 vs = wipe σ vs ∧ tYes σ2 H2 fun b H3 =>
        if b = true then te σ2 H3 fun y H4 => ∃ acc, H4 D = some (.lst acc) ∧ acc.length < sizeLine ∧ Nx (upd H4 D (.lst (acc ++ [y]))) else Nx H3) := by
  refine lc_it w (fun i H => Same H1 H ∧ H D = some (.lst ((cs.take i).map f))) ⟨same_new hD, by rw [upd_same]; rfl⟩ (fun i H _ p => hG H p.1) ?_ ?_
  · rintro i x H H' hi ⟨s1, hl⟩ ⟨rfl, hx⟩
    rw [List.length_map] at hi
    have hx' : x = enc cs[i] := by
      rw [List.getElem?_map, List.getElem?_eq_getElem hi] at hx
      exact (Option.some.inj hx).symm
    subst hx'
    refine ⟨hw _, ?_⟩
    unfold tYes
    dsimp only
    rw [if_pos rfl]
    refine he cs[i] (List.getElem_mem hi) H' s1 _ ?_
    intro H2 s2
    refine ⟨_, s2 _ _ hl, ?_, ?_, ?_⟩
    · rw [List.length_map, List.length_take]; omega
    · intro b o e
      have nb : b ≠ D := ne_of_none e hD
      rw [upd_ne nb]
      exact s2 _ _ (s1 _ _ e)
    · rw [upd_same, ← List.take_append_getElem hi, List.map_append]
      rfl
  · rintro H ⟨s1, hl⟩
    rw [List.length_map, List.take_length] at hl
    exact hd H s1 hl
/-! ### isinstance of values of built-in types -/
theorem r_isi {K : PySem.W.Frag} {H : Hp} {Q : VK} {x : V} {T n : String} (b : Bool) (ht : TyX K H x (.type T)) (hk : kitB T n = some b) (h : Q (.bl b) H) : rIsi K [x, .ty n] H Q := ⟨x, .ty n, .type T, .type n, b, rfl, .ty n, ht, kit_ty hk, h⟩
theorem r_isiT2 {K : PySem.W.Frag} {H : Hp} {Q : VK} {x : V} {T n m : String} {tp : Addr} (b c : Bool) (hT : H tp = some (.tup [.ty n, .ty m])) (ht : TyX K H x (.type T)) (hk : kitB T n = some b) (hk2 : kitB T m = some c) (h : Q (.bl (b || c)) H) : rIsiT K [x, .ref tp] H Q := by
  refine ⟨x, tp, _, .type T, [.type n, .type m], (b || c), rfl, hT, .cons (.ty n) (.cons (.ty m) .nil), ht, ?_, h⟩
  refine kitAny_cons (b := b) (kit_ty hk) (fun e => ?_) (fun e => by rw [e]; rfl)
  refine kitAny_cons (b := c) (kit_ty hk2) (fun e2 => ?_) (fun e2 => by rw [e2]; simp)
  rw [e, e2]
  exact kitAny_nil
theorem same_tyB {K : PySem.W.Frag} {H H' : Hp} {x : V} {t : Value} (e : Same H H') (h : TyX K H x t) : TyX K H' x t := by
  cases h with
  | base b =>
    cases b with
    | non => exact .base .non
    | bl y => exact .base (.bl y)
    | int y => exact .base (.int y)
    | str y => exact .base (.str y)
    | flt y => exact .base (.flt y)
    | lst z => exact .base (.lst (e _ _ z))
    | frz z => exact .base (.frz (e _ _ z))
    | tup z => exact .base (.tup (e _ _ z))
    | dK z => exact .base (.dK (e _ _ z))
    | dT z => exact .base (.dT (e _ _ z))
    | ins z cl ha hn htk hm => exact .base (.ins (e _ _ z) cl ha hn htk hm)
  | byt y => exact .byt y
  | set z => exact .set (e _ _ z)
  | kList z c => exact .kList z c
  | kTuple z c => exact .kTuple z c
  | kDict z c => exact .kDict z c
  | fTuple z => exact .fTuple (e _ _ z)
  | fDict z => exact .fDict (e _ _ z)
theorem r_r1 {H : Hp} {Q : VK} {k : V → Hp → VK → Prop} {x : V} (h : k x H Q) : r1 k [x] H Q := h
theorem r_bytesL {K : PySem.W.Frag} {H : Hp} {Q : VK} {p : Addr} {ns : List Int} (hp : SqL K H p (ns.map V.int)) (hn : ∀ n ∈ ns, 0 ≤ n ∧ n < 256) (h : Q (.byt (byteArr ns)) H) : kByts K (.ref p) H Q := .inr ⟨p, ns, rfl, hp, hn, h⟩
/-! ### walks -/
theorem r_lc {wi : TI} {g : TG} {tt : TT} {te : TE} {vs : List Nat} {σ : L2.St} {H : Hp} {Q : VK} (h : wi σ H fun J H1 => ∀ D, H1 D = none → ∃ W : Nat → Nat → Hp → Prop, (∃ m, W 0 m (upd H1 D (.lst []))) ∧ ∀ i m H, W i m H →
  (J.stop i H ∧ Q (.ref D) H) ∨ (J.go i H ∧ ∃ Nx : Hp → Prop, (∀ H', Nx H' → ∃ m', m' < m ∧ W (i + 1) m' H') ∧ ∀ x H', J.yld i H x H' → g x (wipe σ vs) H' fun σ2 H2 => wipe σ2 vs = wipe σ vs ∧ tt σ2 H2 fun b H3 =>
    if b = true then te σ2 H3 fun y H4 => ∃ acc, H4 D = some (.lst acc) ∧ acc.length < sizeLine ∧ Nx (upd H4 D (.lst (acc ++ [y]))) else Nx H3)) : tLc wi g tt te vs σ H Q := h
theorem r_for {wi : TI} {g : TG} {tb : TS} {D : Ends} {σ : L2.St} {H : Hp} (h : wi σ H fun J H1 => ∃ W : Nat → Nat → L2.St → Hp → Prop, (∃ m, W 0 m σ H1) ∧ ∀ i m σ H, W i m σ H →
  (J.stop i H ∧ D.nx σ H) ∨ (J.go i H ∧ ∃ N : L2.St → Hp → Prop, (∀ σ' H', N σ' H' → ∃ m', m' < m ∧ W (i + 1) m' σ' H') ∧ ∀ x H', J.yld i H x H' → g x σ H' fun σ2 H2 => tb { D with nx := N, ct := N, bk := D.nx } σ2 H2)) : tFor wi g tb D σ H := h
theorem r_iStr {te : TE} {σ : L2.St} {H : Hp} {R : It → Hp → Prop} (h : te σ H fun v H1 => ∃ x, v = .str x ∧ R (Its x) H1) : iStr te σ H R := h
theorem r_strE {z : Str} {P : Str → Prop} (h : P z) : ∃ x, V.str z = .str x ∧ P x := ⟨z, rfl, h⟩
theorem r_iList {K : PySem.W.Frag} {tl : TE} {σ : L2.St} {H : Hp} {R : It → Hp → Prop} (h : tl σ H fun x H1 => ∃ a, x = .ref a ∧ (∃ xs, SqL K H1 a xs) ∧ R (Itl K a) H1) : iList K tl σ H R := h
theorem r_listE {K : PySem.W.Frag} {H : Hp} {a : Addr} {xs : List V} {P : Addr → Prop} (hp : SqL K H a xs) (h : P a) : ∃ b, V.ref a = .ref b ∧ (∃ xs, SqL K H b xs) ∧ P b := ⟨a, rfl, ⟨xs, hp⟩, h⟩
theorem r_iRng1 {ta : TA} {σ : L2.St} {H : Hp} {R : It → Hp → Prop} (h : ta σ H fun vs H1 => ∃ j : Int, vs = [.int j] ∧ -(2 ^ 62) ≤ j ∧ j < 2 ^ 62 ∧ R (Itr 0 j.toNat) H1) : iRng1 ta σ H R := h
theorem r_rngE {j : Int} {P : Int → Prop} (h0 : -(2 ^ 62) ≤ j) (h1 : j < 2 ^ 62) (h : P j) : ∃ i : Int, [V.int j] = [.int i] ∧ -(2 ^ 62) ≤ i ∧ i < 2 ^ 62 ∧ P i := ⟨j, rfl, h0, h1, h⟩
/-! ### texts cut at a sign; in a written tuple -/
def rSplit : V → List V → Hp → VK → Prop := fun x xs H Q => ∃ a b, x = .str a ∧ xs = [.str b] ∧ (b.length == 0) = false ∧ a.length + 2 ≤ sizeLine ∧ rNewStrs (Txt.split a b) H Q
theorem pe_splitN {X : Cx} {E : Expr} {to te : TE} (hst : PE X E (tM1 (fun x xs H Q => ∃ a b, x = .str a ∧ xs = [.str b] ∧ (b.length == 0) = false ∧ a.length + 2 ≤ sizeLine ∧ rNewStrs (Txt.split a b) H Q) to te)) : PE X E (tM1 rSplit to te) := hst
section
variable {K : PySem.W.Frag} {σ : L2.St} {H : Hp} {Q : VK}
theorem r_m1 {r : V → List V → Hp → VK → Prop} {to te : TE} (h : to σ H fun x H1 => (∃ a, x = .str a) ∧ te σ H1 fun y H2 => r x [y] H2 Q) : tM1 r to te σ H Q := h
theorem r_isZ {z : Str} {P : Prop} (h : P) : (∃ a, V.str z = .str a) ∧ P := ⟨⟨z, rfl⟩, h⟩
theorem r_split {a b : Str} (hb : (b.length == 0) = false) (ha : a.length + 2 ≤ sizeLine) (h : ∀ p, H p = none → Q (.ref p) (upd H p (.lst ((Txt.split a b).map V.str)))) : rSplit (.str a) [.str b] H Q := ⟨a, b, rfl, rfl, hb, ha, h⟩
theorem r_inT {p : Addr} {x : V} {xs : List V} (hp : SqT K H p xs) (hx : flatV x = true) (ha : xs.all flatV = true) (h : Q (.bl (inV x xs)) H) : rIn K false x (.ref p) H Q := ⟨p, xs, rfl, .inr hp, hx, ha, h⟩
theorem r_inL {p : Addr} {x : V} {xs : List V} (hp : SqL K H p xs) (hx : flatV x = true) (ha : xs.all flatV = true) (h : Q (.bl (inV x xs)) H) : rIn K false x (.ref p) H Q := ⟨p, xs, rfl, .inl hp, hx, ha, h⟩
theorem r_slS {z : Str} {lo hi : Option Int} (hz : z.length ≤ sizeLine) (h : Q (.str (cutS z lo hi)) H) : rSlS (.str z) lo hi H Q := ⟨z, rfl, hz, h⟩
theorem r_sl {r : V → Option Int → Option Int → Hp → VK → Prop} {te : TE} {tl th : TO} (h : te σ H fun x H1 => tl σ H1 fun l H2 => th σ H2 fun u H3 => r x l u H3 Q) : tSl r te tl th σ H Q := h
theorem r_noPart {Q : Option Int → Hp → Prop} (h : Q none H) : tNoPart σ H Q := h
theorem r_part {t : TE} {Q : Option Int → Hp → Prop} (h : t σ H fun x H1 => ∃ i, x = .int i ∧ Q (some i) H1) : tPart t σ H Q := h
theorem r_partE {i : Int} {P : Int → Prop} (h : P i) : ∃ j, V.int i = .int j ∧ P j := ⟨i, rfl, h⟩
theorem r_ixS {z : Str} {i : Int} {c : Nat} (hz : z.length ≤ sizeLine) (hc : atI z.cps.toList i = some c) (h : Q (.str ⟨#[c]⟩) H) : rIxS (.str z) (.int i) H Q := ⟨z, i, c, rfl, rfl, hz, hc, h⟩
end
/-! ### rules that lean on the written part, with it told -/
theorem op_inK {X : Cx} (K : PySem.W.Frag) (h : X.K = K := by rfl) : OpR X (compareOp .In) (rIn K false) := h ▸ op_in_seq
theorem op_notInK {X : Cx} (K : PySem.W.Frag) (h : X.K = K := by rfl) : OpR X (compareOp .NotIn) (rIn K true) := h ▸ op_notIn_seq
theorem ix_listK {X : Cx} (K : PySem.W.Frag) (h : X.K = K := by rfl) : IxR X (rIxL K) := h ▸ ix_list
theorem ix_tupK {X : Cx} (K : PySem.W.Frag) (h : X.K = K := by rfl) : IxR X (rIxT K) := h ▸ ix_tup
theorem call_lenK {X : Cx} (K : PySem.W.Frag) (h : X.K = K := by rfl) : CallR X (.builtin "len") (rLenQ K) := h ▸ call_rLenQ
theorem call_isiK1 {X : Cx} (K : PySem.W.Frag) (h : X.K = K := by rfl) : CallR X (.builtin "isinstance") (rIsi K) := h ▸ call_isi
theorem call_isiK2 {X : Cx} (K : PySem.W.Frag) (h : X.K = K := by rfl) : CallR X (.builtin "isinstance") (rIsiT K) := h ▸ call_isiT
theorem call_allK {X : Cx} (K : PySem.W.Frag) (hc : X.calm = true := by rfl) (h : X.K = K := by rfl) : CallR X (.builtin "all") (rAll K) := h ▸ cr_all hc
theorem call_anyK {X : Cx} (K : PySem.W.Frag) (hc : X.calm = true := by rfl) (h : X.K = K := by rfl) : CallR X (.builtin "any") (rAny K) := h ▸ cr_any hc
theorem call_reprK {X : Cx} (K : PySem.W.Frag) (gd : X.A.guards = some []) (hu : X.A.units + 64 < cLine) (h : X.K = K := by rfl) : CallR X (.builtin "repr") (rRepr K) := h ▸ call_rRepr gd hu
theorem sl_listK {X : Cx} (K : PySem.W.Frag) (h : X.K = K := by rfl) : SlR X (rSlL K) := h ▸ sl_list
/-! ### two ways to one int, joined -/
theorem r_joinI {σ σ' : L2.St} {H : Hp} {Q : VK} {ta tb : TE} {p : Prop} [Decidable p] (P : Int → Prop) (k : ∀ c : Int, P c → Q (.int c) H) (h1 : ∀ Q' : VK, (∀ c : Int, P c → Q' (.int c) H) → p → ta σ H Q') (h2 : ∀ Q' : VK, (∀ c : Int, P c → Q' (.int c) H) → ¬ p → tb σ' H Q') : if decide p = true then ta σ H Q else tb σ' H Q :=
  r_iteD (h1 Q k) (h2 Q k)
/-! ### several names at once; slices; whiles -/
section
variable {K : PySem.W.Frag} {σ : L2.St} {H : Hp} {Q : VK} {D : Ends}
theorem r_par {i j : Nat} {ta : TA} (h : ta σ H fun vs H1 => ∃ v w, vs = [v, w] ∧ D.nx ((σ.set i (some v)).set j (some w)) H1) : tPar i j ta D σ H := h
theorem r_pair {v w : V} {P : V → V → Prop} (h : P v w) : ∃ a b, [v, w] = [a, b] ∧ P a b := ⟨v, w, rfl, h⟩
theorem r_par3 {i j l : Nat} {ta : TA} (h : ta σ H fun vs H1 => ∃ u v w, vs = [u, v, w] ∧ D.nx (((σ.set i (some u)).set j (some v)).set l (some w)) H1) : tPar3 i j l ta D σ H := h
theorem r_trip {u v w : V} {P : V → V → V → Prop} (h : P u v w) : ∃ a b c, [u, v, w] = [a, b, c] ∧ P a b c := ⟨u, v, w, rfl, h⟩
theorem r_gtup {n : Nat} {t : TGs} {p : Addr} {xs : List V} {Q : L2.St → Hp → Prop} (hp : SqT K H p xs) (hn : xs.length = n) (h : t xs σ H Q) : gTup K n t (.ref p) σ H Q := ⟨p, xs, rfl, hp, hn, h⟩
theorem r_gcons {t : TG} {u : TGs} {v : V} {r : List V} {Q : L2.St → Hp → Prop} (h : t v σ H fun σ' H' => u r σ' H' Q) : gCons t u (v :: r) σ H Q := ⟨v, r, rfl, h⟩
theorem r_gnil {Q : L2.St → Hp → Prop} (h : Q σ H) : gNil [] σ H Q := ⟨rfl, h⟩
theorem r_slL {p : Addr} {xs : List V} {lo hi : Option Int} (hp : SqL K H p xs) (h : ∀ q, H q = none → Q (.ref q) (upd H q (.lst (cutV xs lo hi)))) : rSlL K (.ref p) lo hi H Q := ⟨p, xs, rfl, hp, h⟩
theorem r_iTup {tl : TE} {R : It → Hp → Prop} (h : tl σ H fun x H1 => ∃ a, x = .ref a ∧ (∃ xs, SqT K H1 a xs) ∧ R (Itt K a) H1) : iTup K tl σ H R := h
theorem r_tupE {a : Addr} {xs : List V} {P : Addr → Prop} (hp : SqT K H a xs) (h : P a) : ∃ b, V.ref a = .ref b ∧ (∃ xs, SqT K H b xs) ∧ P b := ⟨a, rfl, ⟨xs, hp⟩, h⟩
end
theorem walk_rangeN {n : Nat} : Walk (Itr 0 n) ((List.range n).map fun (i : Nat) => V.int (i : Int)).length (fun _ => True) (YAt ((List.range n).map fun (i : Nat) => V.int (i : Int))) := by
  have e : ((List.range n).map fun (i : Nat) => V.int (i : Int)).length = n := by simp
  rw [e]
  refine (walk_range (lo := 0) (n := n)).mono (fun _ h => h) ?_
  rintro i H x H' hi _ ⟨e1, e2⟩
  refine ⟨e1, ?_⟩
  rw [List.getElem?_map, List.getElem?_range hi, e2]
  simp
/-- a while by a number that falls; the body is read for any next N -/
theorem r_while {c : TT} {tb : TS} {D : Ends} {σ : L2.St} {H : Hp} (W : Nat → L2.St → Hp → Prop) (m0 : Nat) (h0 : W m0 σ H)
    (hs : ∀ m σ H, W m σ H → ∀ N : L2.St → Hp → Prop, (∀ m' σ' H', m' < m → W m' σ' H' → N σ' H') → c σ H fun b H1 => if b = true then tb { D with nx := N, ct := N, bk := D.nx } σ H1 else D.nx σ H1)
    (mono : ∀ σ H (Q Q' : Bool → Hp → Prop), (∀ b H1, Q b H1 → Q' b H1) → c σ H Q → c σ H Q') : tWhile c tb D σ H := by
  refine ⟨W, ⟨m0, h0⟩, fun m σ H w => ?_⟩
  refine mono σ H _ _ (fun b H1 q => ?_) (hs m σ H w (fun σ' H' => ∃ m', m' < m ∧ W m' σ' H') (fun m' σ' H' l w' => ⟨m', l, w'⟩))
  cases b with
  | true =>
    rw [if_pos rfl] at q ⊢
    exact ⟨_, fun σ' H' z => z, q⟩
  | false =>
    rw [if_neg Bool.false_ne_true] at q ⊢
    exact q
theorem pg_tupK {X : Cx} (K : PySem.W.Frag) {T : Expr} {n : Nat} {t : TGs} (h : PG X T (gTup X.K n t)) (hK : X.K = K := by rfl) : PG X T (gTup K n t) := hK ▸ h
def rLenY : List V → Hp → VK → Prop := fun xs H Q => ∃ y : Array UInt8, xs = [.byt y] ∧ y.size ≤ sizeLine ∧ Q (.int y.size) H
theorem call_rLenY {X : Cx} : CallR X (.builtin "len") rLenY := fun pins s σ H xs us Q I r h => by
  obtain ⟨y, rfl, hz, q⟩ := h
  exact call_len pins s σ H _ us Q I r ⟨.byt y, y.size, rfl, (show y.size ≤ sizeLine ∧ y.size = y.size from ⟨hz, rfl⟩), q⟩
theorem r_rLenY {H : Hp} {Q : VK} {y : Array UInt8} (hz : y.size ≤ sizeLine) (h : Q (.int y.size) H) : rLenY [.byt y] H Q := ⟨y, rfl, hz, h⟩
/-! ### defs with keyword-only parameters; attributes -/
theorem funD_ok0 {P : Program} {w : World} {K : PySem.W.Frag} {mg : Str → Option Value} {base : Heap} {x qual : Str} {params : Arguments} {body : List Stmt} {scope : Scope} {dvs : List V} {kws : List (Str × V)} {f : Addr} {fd : FuncData} {N ps : List Str} {k : Nat} {sp : Sp}
    (F : FunD K x qual params body scope dvs kws f fd) (S : FnScope N ps scope) (len : ∀ vs H Q E, sp vs H Q E → vs.length = ps.length)
    (told : ∀ (cdv : Value) (A : Around) (outer : List Env) (s : Shared) (H : Hp) (vs : List V) (Q : VK) (E : XK), Room k (A.deeper (envOfC qual scope s.heap.objs.size f cdv)) → sp vs H Q E →
      ∃ t, PSs (cxOf CX0 P w K mg base N qual scope f cdv A outer s H E).nox body t ∧ t { nx := fun _ H' => Q .non H', rt := Q } (start N vs) H) : FnOk P w K mg base CX0 (k + 1) f fd ps sp :=
  F.ok S len fun cdv A outer s H vs Q E hr h => by
    obtain ⟨t, d, q⟩ := told cdv A outer s H vs Q E hr h
    exact ⟨t, d.nox, q⟩
section
variable {K : PySem.W.Frag} {σ : L2.St} {H : Hp} {Q : VK} {D : Ends}
theorem r_sfld {ta tv : TE} {f : Str} (h : tv σ H fun y H1 => ta σ H1 fun x H2 => ∃ a C dx fs, x = .ref a ∧ H2 a = some (.ins C dx fs) ∧ Cls K C ∧ NoAttr K C f ∧ fs.length < 1000 ∧ D.nx σ (upd H2 a (.ins C dx (putF f y fs)))) : sFld K ta tv f D σ H := h
theorem r_sfldE {p C dx : Addr} {fs : List (Str × V)} {f : Str} {R : Addr → Addr → Addr → List (Str × V) → Prop} (hp : H p = some (.ins C dx fs)) (hc : Cls K C) (hn : NoAttr K C f) (hl : fs.length < 1000) (h : R p C dx fs) :
    ∃ a C dx fs, V.ref p = .ref a ∧ H a = some (.ins C dx fs) ∧ Cls K C ∧ NoAttr K C f ∧ fs.length < 1000 ∧ R a C dx fs := ⟨p, C, dx, fs, rfl, hp, hc, hn, hl, h⟩
theorem r_fld {te : TE} {f : Str} (h : te σ H fun x H1 => ∃ a C dx fs v, x = .ref a ∧ H1 a = some (.ins C dx fs) ∧ Cls K C ∧ NoAttr K C f ∧ fs.lookup f = some v ∧ Q v H1) : tFld K te f σ H Q := h
theorem r_fldE {p C dx : Addr} {fs : List (Str × V)} {f : Str} {v : V} {R : V → Prop} (hp : H p = some (.ins C dx fs)) (hc : Cls K C) (hn : NoAttr K C f) (hl : fs.lookup f = some v) (h : R v) :
    ∃ a C dx fs v, V.ref p = .ref a ∧ H a = some (.ins C dx fs) ∧ Cls K C ∧ NoAttr K C f ∧ fs.lookup f = some v ∧ R v := ⟨p, C, dx, fs, v, rfl, hp, hc, hn, hl, h⟩
end
/-! ### f-strings; repr of an own object -/
def tJoin (ts : List TE) : TE := fun σ H Q => tJs ts Str.empty σ H fun out H1 => Q (.str out) H1
theorem pe_joinN {X : Cx} {E : Expr} {ts : List TE} (h : PE X E (fun σ H Q => tJs ts Str.empty σ H fun out H1 => Q (.str out) H1)) : PE X E (tJoin ts) := h
section
variable {K : PySem.W.Frag} {σ : L2.St} {H : Hp} {Q : VK}
theorem r_join {ts : List TE} (h : tJs ts Str.empty σ H fun out H1 => Q (.str out) H1) : tJoin ts σ H Q := h
theorem r_jnil {acc : Str} {Q : Str → Hp → Prop} (h : Q acc H) : tJs [] acc σ H Q := h
theorem r_jcons {t : TE} {ts : List TE} {acc : Str} {Q : Str → Hp → Prop} (h : t σ H fun x H1 => ∃ y : Str, x = .str y ∧ (acc ++ y).length ≤ sizeLine ∧ tJs ts (acc ++ y) σ H1 Q) : tJs (t :: ts) acc σ H Q := h
theorem r_jE {y acc : Str} {P : Str → Prop} (hz : (acc ++ y).length ≤ sizeLine) (h : P (acc ++ y)) : ∃ u : Str, V.str y = .str u ∧ (acc ++ u).length ≤ sizeLine ∧ P (acc ++ u) := ⟨y, rfl, hz, h⟩
theorem r_fmtR {te : TE} (h : te σ H fun x H1 => (∃ y : Str, x = .str y ∧ (reprText y).length ≤ sizeLine ∧ Q (.str (reprText y)) H1) ∨ ∃ i : Int, x = .int i ∧ i.natAbs.log2 < 1920 ∧ Q (.str (toString i)) H1) : tFmtR te σ H Q := h
end
/-- repr(o), o of a class with a __repr__ of its own -/
def rReprO (C : Addr) (sp : Sp) : List V → Hp → VK → Prop := fun xs H Q => ∃ a dx fs, xs = [.ref a] ∧ H a = some (.ins C dx fs) ∧ ∀ E, sp [.ref a] H (fun v H' => ∃ z, v = .str z ∧ Q (.str z) H') E
theorem call_rReprO {X : Cx} {C f : Addr} {fd : FuncData} {k : Nat} {sp : Sp} (hs : PySem.W.findIn X.K (.ref C) "__repr__" = some (some (.ref f))) (hf : PySem.W.isFn X.K (.ref f) = true) (F : FnOk X.prog X.w X.K X.mg X.base CX0 k f fd ["self"] sp) (hb : Binds X.K fd ["self"] []) (hr : Room (k + 1) X.A) :
    CallR X (.builtin "repr") (rReprO C sp) := by
  intro pins s σ H xs us Q I r h
  obtain ⟨a, dx, fs, rfl, ha, q⟩ := h
  obtain ⟨u, rfl, rx⟩ := vals1 r
  have hu : u = Value.ref a := rx
  subst hu
  obtain ⟨mA, O, _⟩ := ins_get I.hok ha
  obtain ⟨od, J, _⟩ := O.look
  obtain ⟨m, fr⟩ := I.fr
  have room : Room k X.A.in1 := hr.in1
  refine PySem.W.repr_K (by have := room.un; omega) fr I.ok.mod.kin J hs hf ?_
  refine wpAny_call (codeAny_mono (F.run X.A.in1 X.stack s H ⟨[.ref a], []⟩ [.ref a] [.ref a] _ (fun _ _ _ => False) room I.env0.in1 (hb s [.ref a] I.kIn rfl) (.cons rfl .nil) (q _)) ?_)
  intro r s' hq
  cases r with
  | error e => exact False.elim hq
  | ok fl =>
    cases fl with
    | ret v =>
      obtain ⟨y, H', J', rel, z, rfl, q'⟩ := I.after hq
      obtain ⟨t, rfl⟩ := rel
      exact ⟨.str z, H', J', ⟨t, rfl⟩, q'⟩
    | next => exact False.elim hq
    | brk => exact False.elim hq
    | cont => exact False.elim hq
end Th
/-! text.encode("ascii") of a text whose signs are all below 128 -/
namespace Bt
open PySem PySem.Spec PyProof.Rows L2 PySem.Builtin PySem.W PySem.Calls
/-- the bytes of a text -/
def byOf (l : List Nat) : Array UInt8 := (l.map Nat.toUInt8).toArray
/-- a codec that writes each sign below 128 as its own byte -/
structure Plain (c : _codecs.TextCodec) : Prop where
  ok : ∀ k, k < 128 → c.bad k = false
  by1 : ∀ k, k < 128 → c.bytesOf k = [k.toUInt8]
theorem plain_ascii : Plain _codecs.asciiCodec := ⟨fun k h => decide_eq_false (by omega), fun _ _ => rfl⟩
theorem fold_plain {c : _codecs.TextCodec} (hc : Plain c) : ∀ (l : List Nat) (acc : Array UInt8), (∀ k ∈ l, k < 128) → l.foldl (fun acc y => acc ++ (c.bytesOf y).toArray) acc = acc ++ byOf l
  | [], acc, _ => by simp [byOf]
  | k :: l, acc, h => by
    rw [List.foldl_cons, hc.by1 k (h k (.head _)), fold_plain hc l _ fun d hd => h d (.tail _ hd)]
    apply Array.toList_inj.mp
    simp [byOf]
section
variable {M : Model} {A : Around} {E : Value → Shared → Prop} {s : Shared} {x : PySem.Str} {id : String} {self : Value}
theorem narrow {c : _codecs.TextCodec} (hc : Plain c) {Q : Array UInt8 → Shared → Prop} (ha : KSb.Asc x) (hz : x.length ≤ 16777216) (h : Q (byOf x.cps.toList) s) : wpAny M A (_codecs.encodeNarrow id c none self x) Q E s := by
  have hall : x.cps.findIdx? c.bad = none := by
    rw [Array.findIdx?_eq_none_iff]
    intro k hk
    rw [hc.ok k (ha k (Array.mem_toList_iff.mpr hk))]
  have hex : x.cps.extract 0 x.cps.size = x.cps := KSb.whole_extract x
  have hclean : ((x.cps.findIdx? c.bad).getD x.cps.size) = x.cps.size := by rw [hall]; rfl
  have hfold : x.cps.foldl (fun acc y => acc ++ (c.bytesOf y).toArray) #[] = byOf x.cps.toList := by
    rw [← Array.foldl_toList, fold_plain hc _ _ ha]
    simp
  have hsz : (byOf x.cps.toList).size = x.cps.size := by simp [byOf]
  have hz' : x.cps.size ≤ 16777216 := hz
  unfold _codecs.encodeNarrow
  refine wpAny_bind ?_
  rw [KPc.range_list]
  rcases hn : x.length with _ | n
  · show wpAny M A (forIn ([] : List Nat) _ _) _ E s
    rw [List.forIn_nil]
    have e : byOf x.cps.toList = #[] := Array.eq_empty_of_size_eq_zero (hsz.trans hn)
    rw [e] at h
    exact wpAny_pure (wpAny_pure h)
  · have h0 : 0 < x.cps.size := by
      show 0 < x.length
      omega
    rw [List.range'_succ]
    refine KPc.turn (wpAny_ite (KBy.ite_no (by simp [sizeLine_eq]) ?_))
    try dsimp only
    rw [Array.getElem?_eq_getElem h0]
    try dsimp only
    refine wpAny_ite (KBc.ite_yes (by rw [hc.ok _ (ha _ (Array.mem_toList_iff.mpr (Array.getElem_mem h0)))]; rfl) ?_)
    rw [hex, hclean, hex, hfold]
    try dsimp only
    refine wpAny_pure ?_
    rcases n with _ | m
    · show wpAny M A (forIn ([] : List Nat) _ _) _ E s
      rw [List.forIn_nil]
      exact wpAny_pure (wpAny_pure h)
    · rw [List.range'_succ]
      refine KPc.turn (wpAny_ite (KBy.ite_no (by rw [hsz, sizeLine_eq]; omega) ?_))
      try dsimp only
      rw [Array.getElem?_eq_none (by omega : x.cps.size ≤ 0 + x.cps.size)]
      try dsimp only
      exact wpAny_pure (wpAny_pure h)
end
theorem enc_tree (x : PySem.Str) (t u : Tok) : «str.encode» ⟨[.str x t, .str (PySem.Str.ofString "ascii") u], []⟩ = (do ret (← _codecs.encodeRoad "str.encode" (.str x t) x (PySem.Str.ofString "ascii") none)) := by
  first | kernel_rfl | (unfold «str.encode»; simp only []; rfl)
theorem road_ascii (id : String) (self : Value) (x : PySem.Str) (errors : Option PySem.Str) : _codecs.encodeRoad id self x (PySem.Str.ofString "ascii") errors = (do mkBytes (← _codecs.encodeNarrow id _codecs.asciiCodec errors self x)) := by
  first | rfl | (unfold _codecs.encodeRoad; rfl) | (unfold _codecs.encodeRoad; simp only []; rfl)
theorem meets_enc {x : PySem.Str} {t u : Tok} (ha : KSb.Asc x) (hz : x.length ≤ 16777216) : Gives («str.encode» ⟨[.str x t, .str (PySem.Str.ofString "ascii") u], []⟩) (.bytes (byOf x.cps.toList)) := .of_wp fun M A E s Q hq => by
  rw [enc_tree, road_ascii]
  refine wpAny_bind (wpAny_bind (narrow plain_ascii ha hz ?_))
  obtain ⟨hb, hq⟩ := hq
  refine wpAny_mkBytes ?_ hb
  exact wpAny_pure ⟨_, rfl, hq⟩
section
variable {X : Cx}
theorem mt_enc : MtR X "str.encode" (fun x xs H Q => ∃ a b, x = .str a ∧ xs = [.str b] ∧ (KSb.Asc a ∧ a.length ≤ 16777216 ∧ b = PySem.Str.ofString "ascii") ∧ Q (.byt (byOf a.cps.toList)) H) :=
  mt1C (C := fun a b => KSb.Asc a ∧ a.length ≤ 16777216 ∧ b = PySem.Str.ofString "ascii") (g := fun a _ => .byt (byOf a.cps.toList)) fun a b t u s Q hc h => by
    obtain ⟨ha, hz, rfl⟩ := hc
    exact call_gives F.slot_str_encode (typeIs_str s a t) F.entry_str_encode (F.args_str_encode_2 _ _) (meets_enc ha hz) ⟨by rw [sizeLine_eq]; rw [show (byOf a.cps.toList).size = a.length from by simp [byOf, PySem.Str.length]]; exact hz, h _ _ ⟨_, rfl⟩⟩
end
end Bt
/-! f"{n:o}" and f"{n:06o}" of an int from 0 -/
namespace Bt
open PySem PySem.Spec PyProof.Rows L2 PySem.Builtin PySem.W PySem.Calls
open Builtin.Str Builtin.Int Builtin.Float
/-- the octal digits as signs -/
def octL (n : Nat) : List Nat := (Nat.toDigits 8 n).map fun c => c.toNat
def octP (n k : Nat) : List Nat := List.replicate (k - (octL n).length) 48 ++ octL n
theorem oct_ne (n : Nat) : (octL n).isEmpty = false := by
  have := tDigits_len_ge 8 n
  unfold octL
  cases h : Nat.toDigits 8 n with
  | nil => rw [h] at this; simp at this
  | cons _ _ => rfl
theorem spec_o : parseFormatSpec (PySem.Str.ofString "o").cps.toList "int" 62 = .ok { fill := 32, align := 62, type := some 111 } := by first | rfl | kernel_rfl | decide +kernel
theorem spec_06o : parseFormatSpec (PySem.Str.ofString "06o").cps.toList "int" 62 = .ok { fill := 48, align := 61, width := some 6, type := some 111 } := by first | rfl | kernel_rfl | decide +kernel
theorem oct_len (n : Nat) (h : n < 8 ^ 30) : (octL n).length ≤ 30 := by
  unfold octL
  rw [List.length_map]
  rcases Nat.eq_zero_or_pos n with rfl | hp
  · decide
  · have := (Nat.length_toDigits_le_iff (n := n) (k := 30) (b := 8) (by decide) (by decide)).mpr h
    exact this
theorem field_o {f : FormatSpec} (hf : f.fill = 32) (ha : f.align = 62) (hw : f.width = none) (hg : f.grouping = none) (hs : f.sign = none) (n : Nat) (g : Nat) :
    intField' f false [] (octL n) [] g = ⟨(octL n).toArray⟩ := by
  unfold intField'
  simp only [hf, ha, hw, hg, hs, oct_ne]
  refine Str.ext' ?_
  simp
theorem field_06o {f : FormatSpec} {k : Nat} (hf : f.fill = 48) (ha : f.align = 61) (hw : f.width = some k) (hg : f.grouping = none) (hs : f.sign = none) (n : Nat) (g : Nat) :
    intField' f false [] (octL n) [] g = ⟨(octP n k).toArray⟩ := by
  rw [intField'_zero_nonneg f (octL n) g hg hs (oct_ne n) hf ha, hw]
  rfl
end Bt
namespace Bt
open PySem PySem.Spec PyProof.Rows L2 PySem.Builtin PySem.W PySem.Calls
open Builtin.Str Builtin.Int Builtin.Float
/-- a format by octal digits -/
abbrev octS (fill align : Nat) (w : Option Nat) : FormatSpec := { fill := fill, align := align, width := w, type := some 111 }
structure OctF (sp : PySem.Str) (fill align : Nat) (w : Option Nat) : Prop where
  ne : (sp.length == 0) = false
  asc : ((sp.cps.toList.drop 1).any (· ≥ 128) || (sp.cps.getD 0 0 ≥ 128 && !([60, 62, 61, 94] : List Nat).contains (sp.cps.getD 1 0))) = false
  ok : parseFormatSpec sp.cps.toList "int" 62 = .ok (octS fill align w)
  w : w.getD 0 ≤ 100000
theorem ret_T {M : Model} {A : Around} {E : Value → Shared → Prop} {s : Shared} {X T : PySem.Str} {Q : PySem.Fin → Shared → Prop} (e : X = T) (hL : T.length ≤ sizeLine) (h : ∀ t k, Q (.done (.ret (.str T t))) { s with toks := k }) : wpAny M A (retStr X) Q E s := by
  subst e
  exact wpAny_bind (wpAny_mkStr (wpAny_pure (h _ _)) hL)
theorem fmt_oct {sp : PySem.Str} {fill align : Nat} {wd : Option Nat} (F : OctF sp fill align wd) {a : Int} (h0 : decide (a < 0) = false) {T : PySem.Str} (e : intField' (octS fill align wd) false [] (octL a.natAbs) [] 4 = T) (hL : T.length ≤ sizeLine) (t u : Tok) :
    Meets («int.__format__» ⟨[.int a t, .str sp u], []⟩) (fun _ R s => ∀ t' k, R (.ok (.ret (.str T t'))) { s with toks := k }) := by
  obtain ⟨hne, hasc, hok, hw⟩ := F
  apply KPc.meets_of
  intro prog w A s Q E hq
  unfold Builtin.«int.__format__»
  simp only [selfAndOne, noKeywords, Int.intOfSelf, asInt?, asStr?, List.isEmpty_nil, if_true, pure_bind, bind_pure, bind_assoc, hne, hasc, Bool.false_eq_true, if_false,
    show (Value.str sp u == Value.none) = false from rfl]
  refine wpAny_bind (wpAny_typeNameOf (T := "str") (typeIs_str _ _ _) (by decide) fun _ => ?_)
  refine wpAny_bind (wpAny_typeNameOfCut_int ?_)
  simp only [hok, Option.getD_some]
  rw [if_pos (by decide)]
  show wpAny _ _ (if _ then _ else _) _ _ _
  rw [if_neg (by simpa using hw)]
  refine ret_T (T := T) ?_ hL hq
  rw [h0]
  exact e
theorem oct_o : OctF (PySem.Str.ofString "o") 32 62 none := ⟨by decide +kernel, by decide +kernel, spec_o, by decide⟩
theorem oct_06o : OctF (PySem.Str.ofString "06o") 48 61 (some 6) := ⟨by decide +kernel, by decide +kernel, spec_06o, by decide⟩
theorem octP_len (n k : Nat) (h : n < 8 ^ 30) : (octP n k).length ≤ 30 + k := by
  have := oct_len n h
  unfold octP
  rw [List.length_append, List.length_replicate]
  omega
theorem big {k : Nat} (h : k ≤ 100000) : k ≤ sizeLine := by rw [sizeLine_eq]; omega
section
variable {X : Cx}
/-- {x:..}: octal digits -/
def tFmtO (g : Nat → List Nat) (te : TE) : TE := fun σ H Q => te σ H fun x H1 => ∃ n : Nat, x = .int n ∧ n < 8 ^ 30 ∧ Q (.str ⟨(g n).toArray⟩) H1
theorem pe_oct {sp : PySem.Str} {fill align : Nat} {wd : Option Nat} (F : OctF sp fill align wd) {g : Nat → List Nat} (hg : ∀ n, intField' (octS fill align wd) false [] (octL n) [] 4 = ⟨(g n).toArray⟩)
    (hl : ∀ n, n < 8 ^ 30 → (g n).length ≤ 100000) (hs : sp.length ≤ sizeLine) {e es : Expr} {te : TE} {pos : Pos} (he : PE X e te) (hc : PE X es (tC (.str sp))) : PE X (.FormattedValue e (-1) (some es) pos) (tFmtO g te) := by
  refine ⟨fun pins s σ H Q I h => ?_⟩
  refine wpAny_FormattedValue_spec (thn (he.run pins s σ H _ I h) fun v s1 hv => ?_)
  obtain ⟨x, H1, I1, r1, n, rfl, hn, q⟩ := hv
  obtain ⟨t, rfl⟩ := r1
  refine thn (hc.run pins s1 σ H1 (fun y H2 => y = .str sp ∧ H2 = H1) I1 ⟨rfl, rfl⟩) fun v2 s2 hv2 => ?_
  obtain ⟨y, H2, I2, r2, rfl, rfl⟩ := hv2
  obtain ⟨t2, rfl⟩ := r2
  refine ⟨sp, t2, rfl, ?_⟩
  have hL : (⟨(g n).toArray⟩ : PySem.Str).length ≤ sizeLine := big (by simpa [PySem.Str.length] using hl n hn)
  have h0 : decide ((n : Int) < 0) = false := decide_eq_false (by omega)
  refine KXf.field_int (y := ⟨(g n).toArray⟩) (spec' := sp) rfl F.ne hs (fun u => ?_) fun t' k => ⟨.str _, _, I2.tok _, ⟨_, rfl⟩, q⟩
  exact fmt_oct F h0 (T := ⟨(g n).toArray⟩) (hg n) hL _ _
theorem pe_o {e es : Expr} {te : TE} {pos : Pos} (he : PE X e te) (hc : PE X es (tC (.str (PySem.Str.ofString "o")))) : PE X (.FormattedValue e (-1) (some es) pos) (tFmtO octL te) :=
  pe_oct oct_o (fun n => field_o rfl rfl rfl rfl rfl n 4) (fun n h => by have := oct_len n h; omega) (by decide +kernel) he hc
theorem pe_06o {e es : Expr} {te : TE} {pos : Pos} (he : PE X e te) (hc : PE X es (tC (.str (PySem.Str.ofString "06o")))) : PE X (.FormattedValue e (-1) (some es) pos) (tFmtO (octP · 6) te) :=
  pe_oct oct_06o (fun n => field_06o rfl rfl rfl rfl rfl n 4) (fun n h => by have := octP_len n 6 h; omega) (by decide +kernel) he hc
end
end Bt
/-! sum of bytes, bytes * int -/
namespace Bt
open PySem PySem.Spec PyProof.Rows L2 PySem.W
/-- the bytes as numbers -/
def nums (b : List UInt8) : List Int := b.map fun c => ((c.toNat : Nat) : Int)
theorem preSum_nums (b : List UInt8) : ∀ n, n ≤ b.length → preSum (fun i => (nums b).getD i 0) n = ((nums b).take n).sum := fun n _ => preSum_getD (nums b) n
section
variable {X : Cx}
/-- sum(b) -/
theorem cr_sumB (hc : X.calm = true := by rfl) : CallR X (.builtin "sum") (fun vs H Q => ∃ b : List UInt8, vs = [.byt b.toArray] ∧ Q (.int (nums b).sum) H) := by
  intro pins s σ H vs us Q I r h
  obtain ⟨b, rfl, q⟩ := h
  obtain ⟨u, rfl, rx⟩ := vals1 r
  obtain ⟨t, rfl⟩ := rx
  have hh : X.A.in1.handled = none := I.ok.hd hc
  refine call_sum_walkG (KBw.pyIter_bytes ?_)
  refine ⟨_, _, _, _, _, _, fun i => (nums b).getD i 0, rfl, KBw.walks hh s.heap.objs.size b.toArray t, ⟨_, Heap.get?_push_size _ rfl, rfl, rfl⟩, fun a ha => ?_, fun i v hv => ?_, fun h' tk t' hk => ?_⟩
  · have e := List.mem_singleton.mp ha
    subst e
    exact Heap.lt_size (Heap.get?_push_size _ rfl)
  · obtain ⟨c, w, hc, rfl⟩ := hv
    refine ⟨w, ?_⟩
    have e : (nums b).getD i 0 = (c.toNat : Int) := by
      unfold nums
      simp at hc
      simp [hc]
    exact congrArg (fun z => Value.int z w) e.symm
  · have e : preSum (fun i => (nums b).getD i 0) b.toArray.size = (nums b).sum := by
      rw [List.size_toArray, preSum_nums b _ (Nat.le_refl _), List.take_of_length_le (by simp [nums])]
    rw [e]
    exact ⟨.int _, H, I.kept (fun a o ho => hk a o (fun hm => absurd (List.mem_singleton.mp hm) (Nat.ne_of_lt (Heap.lt_size ho))) (Heap.get?_push_of_some _ ho)), ⟨_, rfl⟩, q⟩
/-- b * n, b not empty and short -/
theorem op_mulB : OpR X (binaryOp .Mult) (fun x y H Q => ∃ (b : List UInt8) (n : Int), x = .byt b.toArray ∧ y = .int n ∧ (b ≠ [] ∧ -1048576 ≤ n ∧ n ≤ 1048576 ∧ b.length ≤ 16) ∧ Q (.byt ((List.replicate n.toNat b).flatten).toArray) H) := by
  intro pins s σ H x y v u Q I rx ry h
  obtain ⟨b, n, rfl, rfl, ⟨h1, h2, h3, h4⟩, q⟩ := h
  obtain ⟨t, rfl⟩ := rx
  obtain ⟨t', rfl⟩ := ry
  exact bytes_mul_any h1 h2 h3 h4 fun t2 k => ⟨.byt _, H, I.tok _, ⟨_, rfl⟩, q⟩
end
end Bt
/-! list(b) of bytes -/
namespace Bt
open PySem PySem.Spec PyProof.Rows L2 PySem.W PySem.Builtin
/-- what stands at a place of the bytes -/
def ByAt (b : Array UInt8) (i : Nat) (v : Value) : Prop := ∃ c u, b[i]? = some c ∧ v = .int (c.toNat : Int) u
theorem sub_by : isSubtype (.type "bytes") (.type "bytes") = pure true := by rw [isSubtype_type]; kernel_rfl
section
variable {prog : Program} {w : World} {A : Around} {E : Value → Shared → Prop} {s : Shared} {b : Array UInt8} {t : Tok}
theorem hint_by {Q : Bool → Shared → Prop} (h : Q false s) : wpAny (model prog w) A (Builtin.List.listLengthHint (.bytes b t)) Q E s := by
  unfold Builtin.List.listLengthHint
  refine wpAny_bind (wpAny_specialOf (T := "bytes") (typeIs_bytes s b t) FB.slot_bytes_len.lookup ?_)
  wp_delta
  refine wpAny_bind (wpAny_isInstance (T := "bytes") (b := true) (typeIs_bytes s b t) sub_by ?_)
  show wpAny _ _ (typeOf (Value.bytes b t) >>= _) _ _ _
  refine wpAny_bind (wpAny_typeOf (T := "bytes") (typeIs_bytes s b t) ?_)
  exact wpAny_pure h
theorem more_by {R : Result → Shared → Prop} (hh : A.handled = none) (S : Addr) (c0 : Nat) (hS : s.heap.get? S = some { cls := .type "list", data := .seq #[] c0 })
    (hR : ∀ h' tk acc c, (∀ p o, p ≠ S → s.heap.get? p = some o → h'.get? p = some o) → h'.get? S = some { cls := .type "list", dict := none, data := .seq acc c, slots := #[] } → ItemsOf (ByAt b) acc b.size →
      R (.ok (.ret .none)) { s with heap := h', toks := tk }) (hn : b.size ≤ sizeLine) :
    wpAny (model prog w) A.in1 (Builtin.List.listExtendWith (.ref S) (.bytes b t) .none)
      (fun fin s' => match fin with | .done f => R (.ok f) s' | .again c' => c'.quiet = true ∧ codeAny (model prog w) A c' R s') (fun e s' => R (.error e) s') s := by
  have hlt := Heap.lt_size hS
  have hnew : S ∉ [s.heap.objs.size] := fun hm => absurd (List.mem_singleton.mp hm) (Nat.ne_of_lt hlt)
  unfold Builtin.List.listExtendWith
  refine wpAny_bind (wpAny_typeOf (T := "bytes") (typeIs_bytes s b t) ?_)
  simp only [show Builtin.List.listSameRef (.ref S) (.bytes b t) = false from rfl, show (Value.type "bytes" == Value.type "list") = false by decide, show (Value.type "bytes" == Value.type "tuple") = false by decide, Bool.or_false, Bool.false_eq_true, if_false]
  refine wpAny_bind (KBw.pyIter_bytes ?_)
  refine wpAny_bind (wpAny_holding (hint_by ?_))
  rw [if_neg (by decide)]
  refine wpAny_pure ⟨plainId_quiet F.plain_extend_loop _, codeAny_extend_loopS (KBw.walks (A := A.in1) hh s.heap.objs.size b t).toS hn S hnew .none b.size 0 _ _ _ rfl (Nat.zero_le _) ⟨_, Heap.get?_push_size _ rfl, rfl, rfl⟩
    (Heap.get?_push_of_some _ hS) (ItemsOf.nil _) fun s' acc c hm hS' hacc => ?_⟩
  rw [Moved.eq_with hm]
  refine hR s'.heap s'.toks acc c (fun p o hp ho => hm.heap p o (fun hin => ?_) (Heap.get?_push_of_some _ ho)) hS' hacc
  rcases List.mem_cons.mp hin with e | e
  · exact hp e
  · exact absurd (List.mem_singleton.mp e) (Nat.ne_of_lt (Heap.lt_size ho))
theorem init_by {R : Result → Shared → Prop} (hh : A.handled = none) (S : Addr) (hS : s.heap.get? S = some { cls := .type "list", data := .seq #[] })
    (hR : ∀ h' tk acc c, (∀ p o, p ≠ S → s.heap.get? p = some o → h'.get? p = some o) → h'.get? S = some { cls := .type "list", dict := none, data := .seq acc c, slots := #[] } → ItemsOf (ByAt b) acc b.size →
      R (.ok (.ret .none)) { s with heap := h', toks := tk }) (hn : b.size ≤ sizeLine) :
    wpAny (model prog w) A.in1 (Builtin.«list.__init__» ⟨[.ref S, .bytes b t], []⟩)
      (fun fin s' => match fin with | .done f => R (.ok f) s' | .again c' => c'.quiet = true ∧ codeAny (model prog w) A c' R s') (fun e s' => R (.error e) s') s := by
  show wpAny _ _ (do let old ← Builtin.List.listItems (.ref S); Builtin.List.listUpdate (.ref S) (fun _ => #[]); letGo old.toList.reverse; Builtin.List.listExtendWith (.ref S) (.bytes b t) .none) _ _ s
  refine wpAny_bind ?_
  unfold Builtin.List.listItems
  refine wpAny_bind (wpAny_seqItems hS rfl (wpAny_pure ?_))
  show wpAny _ _ (updateSeq S (fun _ => #[]) >>= fun _ => letGo (#[] : Array Value).toList.reverse >>= fun _ => Builtin.List.listExtendWith (.ref S) (.bytes b t) .none) _ _ s
  refine wpAny_bind (wpAny_updateSeq hS rfl (wpAny_bind (wpAny_letGo ?_)))
  exact more_by hh S _ (Heap.get?_update_self (Obj.mapSeq (fun _ => (#[] : Array Value))) hS rfl)
    (fun h' tk acc c hk => hR h' tk acc c fun p o hp ho => hk p o hp ((Heap.get?_update_other _ _ (Ne.symm hp)).trans ho)) hn
theorem list_by {Q : Value → Shared → Prop} (hh : A.handled = none) (hn : b.size ≤ sizeLine)
    (hQ : ∀ h' tk acc c, (∀ p o, s.heap.get? p = some o → h'.get? p = some o) → h'.get? s.heap.objs.size = some { cls := .type "list", dict := none, data := .seq acc c, slots := #[] } → ItemsOf (ByAt b) acc b.size →
      Q (.ref s.heap.objs.size) { s with heap := h', toks := tk }) :
    wpAny (model prog w) A (call (.type "list") [.bytes b t]) Q E s := by
  refine callType_codes (Q₁ := fun obj s₁ => obj = .ref s.heap.objs.size ∧ s₁ = { s with heap := s.heap.push { cls := .type "list", data := .seq #[] } }) F.called_list (F.typeCall_list_1 _) F.entry_list_init
    (code_list_new _ ⟨rfl, rfl⟩) fun obj s₁ h₁ => ?_
  obtain ⟨rfl, rfl⟩ := h₁
  have hS : (s.heap.push { cls := .type "list", data := .seq #[] }).get? s.heap.objs.size = some { cls := .type "list", data := .seq #[] } := Heap.get?_push_size _ rfl
  refine ⟨⟨_, hS, rfl⟩, F.args_list_init_2 _ _, init_by (A := A.in1) hh _ hS (fun h' tk acc c hk hS' hacc => ?_) hn⟩
  exact ⟨rfl, hQ h' tk acc c (fun p o ho => hk p o (Nat.ne_of_lt (Heap.lt_size ho)) (Heap.get?_push_of_some _ ho)) hS' hacc⟩
end
theorem vals_by (b : List UInt8) : ∀ (acc : List Value), acc.length = b.length → (∀ (j : Nat) v, acc[j]? = some v → ByAt b.toArray j v) → Vals ((nums b).map V.int) acc := by
  induction b with
  | nil =>
    intro acc hl _
    rw [List.length_eq_zero_iff.mp hl]
    exact .nil
  | cons c b ih =>
    intro acc hl h
    cases acc with
    | nil => cases hl
    | cons v acc =>
      refine .cons ?_ (ih acc (Nat.succ.inj hl) fun j v' hv => ?_)
      · obtain ⟨c', u, hc, rfl⟩ := h 0 v rfl
        simp at hc
        subst hc
        exact ⟨u, rfl⟩
      · obtain ⟨c', u, hc, e⟩ := h (j + 1) v' (by simpa using hv)
        exact ⟨c', u, by simpa using hc, e⟩
section
variable {X : Cx}
/-- list(b) -/
theorem call_listB (hc : X.calm = true := by rfl) : CallR X (.type "list") (fun xs H Q => ∃ b : List UInt8, xs = [.byt b.toArray] ∧ b.length ≤ 16777216 ∧ ∀ p, H p = none → Q (.ref p) (upd H p (.lst ((nums b).map V.int)))) := by
  intro pins s σ H xs us Q I r h
  obtain ⟨b, rfl, hz, q⟩ := h
  obtain ⟨u, rfl, rx⟩ := vals1 r
  obtain ⟨t, rfl⟩ := rx
  have hn : b.toArray.size ≤ sizeLine := by rw [List.size_toArray, sizeLine_eq]; exact hz
  refine list_by (I.ok.hd hc) hn fun h' tk acc c hk hS hacc => ?_
  have hv : Vals ((nums b).map V.int) acc.toList := vals_by b acc.toList (by rw [Array.length_toList, hacc.1, List.size_toArray]) fun j v hv => hacc.2 j v (by rw [← Array.getElem?_toList]; exact hv)
  have hl : ((nums b).map V.int).length ≤ sizeLine := by rw [List.length_map]; unfold nums; rw [List.length_map, sizeLine_eq]; exact hz
  exact ⟨.ref s.heap.objs.size, _, I.laid (t' := tk) hk (Nat.le_refl _) (show ObjOk X.prog X.w _ h' _ (.lst ((nums b).map V.int)) from ⟨hl, acc.toList, c, hv, hS⟩), rfl, q _ (I.hok.fresh (Nat.le_refl _))⟩
end
end Bt
/-! the octal digits, written from the last one on -/
namespace Bt
open PySem PySem.Spec PyProof.Rows L2
/-- k octal digits of n, the last one first -/
def digs : Nat → Nat → List Nat
  | 0, _ => []
  | k + 1, n => (48 + n % 8) :: digs k (n / 8)
theorem digs_len : ∀ k n, (digs k n).length = k
  | 0, _ => rfl
  | k + 1, n => by rw [digs, List.length_cons, digs_len k]
theorem digs_zero : ∀ k, digs k 0 = List.replicate k 48
  | 0 => rfl
  | k + 1 => by
    rw [digs, List.replicate_succ]
    exact congrArg _ (digs_zero k)
theorem digit8 {d : Nat} (h : d < 8) : (Nat.digitChar d).toNat = 48 + d := by
  have : d = 0 ∨ d = 1 ∨ d = 2 ∨ d = 3 ∨ d = 4 ∨ d = 5 ∨ d = 6 ∨ d = 7 := by omega
  rcases this with rfl | rfl | rfl | rfl | rfl | rfl | rfl | rfl <;> rfl
theorem octL_small {n : Nat} (h : n < 8) : octL n = [48 + n] := by
  unfold octL
  rw [Nat.toDigits_of_lt_base h]
  exact congrArg (fun x => [x]) (digit8 h)
theorem octL_step {n : Nat} (h : 8 ≤ n) : octL n = octL (n / 8) ++ [48 + n % 8] := by
  unfold octL
  rw [Nat.toDigits_eq_if (by decide), if_neg (by omega), List.map_append]
  exact congrArg (fun x => _ ++ [x]) (digit8 (Nat.mod_lt _ (by decide)))
theorem oct_snoc {n k : Nat} (h : 8 ≤ n) : octP n (k + 1) = octP (n / 8) k ++ [48 + n % 8] := by
  unfold octP
  rw [octL_step h, List.length_append, List.append_assoc]
  have : k + 1 - ((octL (n / 8)).length + [48 + n % 8].length) = k - (octL (n / 8)).length := by simp
  rw [this]
/-- k digits from the front are those from the back, turned round -/
theorem digs_oct : ∀ (k n : Nat), 1 ≤ k → n < 8 ^ k → (digs k n).reverse = octP n k := by
  intro k
  induction k with
  | zero => intro n h; omega
  | succ k ih =>
    intro n _ hn
    rw [digs, List.reverse_cons]
    by_cases h8 : n < 8
    · have e : n / 8 = 0 := by omega
      have e2 : n % 8 = n := by omega
      rw [e, e2, digs_zero, List.reverse_replicate]
      unfold octP
      rw [octL_small h8]
      rfl
    · have h8' : 8 ≤ n := by omega
      rw [oct_snoc h8']
      rcases k with _ | k
      · omega
      · rw [ih (n / 8) (by omega) (by
          have : n < 8 ^ (k + 1) * 8 := by rw [← Nat.pow_succ]; exact hn
          omega)]
theorem octL_small_signs : ∀ (k n : Nat), n < 8 ^ k → ∀ c ∈ octL n, 48 ≤ c ∧ c < 56 := by
  intro k
  induction k with
  | zero =>
    intro n hn c hc
    have : n = 0 := by omega
    subst this
    rw [octL_small (by decide)] at hc
    have := List.mem_singleton.mp hc
    omega
  | succ k ih =>
    intro n hn c hc
    by_cases h8 : n < 8
    · rw [octL_small h8] at hc
      have := List.mem_singleton.mp hc
      omega
    · rw [octL_step (by omega)] at hc
      rcases List.mem_append.mp hc with h | h
      · exact ih (n / 8) (by
          have : n < 8 ^ k * 8 := by rw [← Nat.pow_succ]; exact hn
          omega) c h
      · have := List.mem_singleton.mp h
        omega
theorem lt_pow8 (n : Nat) : n < 8 ^ n := Nat.lt_pow_self (by decide)
theorem octL_signs (n : Nat) : ∀ c ∈ octL n, 48 ≤ c ∧ c < 56 := octL_small_signs n n (lt_pow8 n)
theorem octP_signs (n k : Nat) : ∀ c ∈ octP n k, 48 ≤ c ∧ c < 56 := by
  intro c hc
  unfold octP at hc
  rcases List.mem_append.mp hc with h | h
  · have := List.eq_of_mem_replicate h
    omega
  · exact octL_signs n c h
theorem octL_le (n k : Nat) (hk : 1 ≤ k) (h : n < 8 ^ k) : (octL n).length ≤ k := by
  unfold octL
  rw [List.length_map]
  exact (Nat.length_toDigits_le_iff (by decide) hk).mpr h
theorem octP_length {n k : Nat} (hk : 1 ≤ k) (h : n < 8 ^ k) : (octP n k).length = k := by
  have := octL_le n k hk h
  unfold octP
  rw [List.length_append, List.length_replicate]
  omega
theorem asc_oct (n k : Nat) : PySem.W.KSb.Asc ⟨(octP n k).toArray⟩ := fun c hc => by
  have := octP_signs n k c (by simpa using hc)
  omega
/-- zeros put before the digits -/
theorem zfill_oct {n k : Nat} : Txt.zfill ⟨(octL n).toArray⟩ (k : Int) = ⟨(octP n k).toArray⟩ := by
  unfold Txt.zfill
  have hl : (⟨(octL n).toArray⟩ : PySem.Str).length = (octL n).length := by simp [PySem.Str.length]
  rw [hl]
  split
  · rename_i h
    have e : k - (octL n).length = 0 := by omega
    unfold octP
    rw [e]
    rfl
  · unfold zfilled
    have hs := octL_signs n
    have hp : Builtin.Str.padded ⟨(octL n).toArray⟩ ((k : Int).toNat - (octL n).length) 0 48 = ⟨(octP n k).toArray⟩ := by
      unfold Builtin.Str.padded octP
      refine Str.ext' ?_
      apply Array.toList_inj.mp
      simp
    cases hL : octL n with
    | nil =>
      have := oct_ne n
      rw [hL] at this
      cases this
    | cons c l =>
      have hc := hs c (by rw [hL]; exact .head _)
      rw [hL] at hp
      have hg : (⟨(c :: l).toArray⟩ : PySem.Str).cps[0]? = some c := by simp
      rw [hg]
      have h43 : c ≠ 43 := by omega
      have h45 : c ≠ 45 := by omega
      split
      · rename_i heq; exact absurd (Option.some.inj heq) h43
      · rename_i heq; exact absurd (Option.some.inj heq) h45
      · exact hp
end Bt
/-! repr of bytes -/
namespace PySem.BtR
open PySem Builtin
theorem slot_bytes_repr : Slot "bytes" "__repr__" "bytes.__repr__" :=
  .of (owner := "bytes") (n := "__repr__") (by rw [typeLookup_type, builtinLookup_eq_fast]; kernel_rfl) (by decide +kernel) (by decide +kernel) (by decide +kernel)
    (by first | exact .inl (by decide +kernel) | exact .inr (by decide +kernel)) (by rw [isSubtype_type]; kernel_rfl)
theorem entry_bytes_repr : entryFor table "bytes.__repr__" = some Builtin.«bytes.__repr__» := entryFor_of_tree (by kernel_rfl)
theorem args_bytes_repr_1 (a : Value) : argsOk "bytes.__repr__" ⟨[a], []⟩ := by
  unfold argsOk; rw [signature?_of (id := "bytes.__repr__") (n := ['_', '_', 'r', 'p', 'e', 'r', '_', '_']) (o := ['s', 'e', 't', 'y', 'b']) (by kernel_rfl) (by first | exact PySem.W.FB.owner_bytes | exact PySem.W.owner_bytes)]; kernel_rfl
theorem gives_bytes_repr (b : Array UInt8) (t : Tok) (h : b.size ≤ 5000) : Gives («bytes.__repr__» ⟨[.bytes b t], []⟩) (.str (Bytes.literal b)) := by
  have e : Str.tooLong (4 * b.size + 3 + 0) = false := by
    unfold Str.tooLong
    rw [sizeLine_eq]
    exact decide_eq_false (by omega)
  show Gives (do
    let z ← (do
      if (Str.tooLong (4 * b.size + 3 + 0) && Str.tooLong (Bytes.literalLength b false + 0)) = true then unsupported "str:memory"
      return Bytes.literal b false)
    retStr z) _
  rw [e, Bool.false_and]
  exact .of_eq rfl
theorem fold_len (f : UInt8 → Array Nat) (hf : ∀ c, (f c).size ≤ 4) : ∀ (l : List UInt8) (acc : Array Nat), (l.foldl (fun acc c => acc ++ f c) acc).size ≤ acc.size + 4 * l.length
  | [], acc => by simp
  | c :: l, acc => by
    rw [List.foldl_cons, List.length_cons]
    have h1 := fold_len f hf l (acc ++ f c)
    have h2 := hf c
    rw [Array.size_append] at h1
    omega
theorem shown_len (q c : Nat) : (if c == q || c == 92 then #[92, c] else if c == 9 then #[92, 116] else if c == 10 then #[92, 110] else if c == 13 then #[92, 114]
    else if c < 32 || c ≥ 127 then #[92, 120, (if c / 16 < 10 then 48 + c / 16 else 87 + c / 16), (if c % 16 < 10 then 48 + c % 16 else 87 + c % 16)] else #[c] : Array Nat).size ≤ 4 := by
  repeat' split
  all_goals simp
theorem literal_len (b : Array UInt8) : (Bytes.literal b).length ≤ 4 * b.size + 3 := by
  unfold Bytes.literal
  show (Array.push (b.foldl _ _) _).size ≤ _
  rw [Array.size_push, ← Array.foldl_toList]
  have h := fold_len (fun c => (if c.toNat == (if b.contains 39 && !b.contains 34 then 34 else 39) || c.toNat == 92 then #[92, c.toNat] else if c.toNat == 9 then #[92, 116] else if c.toNat == 10 then #[92, 110] else if c.toNat == 13 then #[92, 114]
    else if c.toNat < 32 || c.toNat ≥ 127 then #[92, 120, (if c.toNat / 16 < 10 then 48 + c.toNat / 16 else 87 + c.toNat / 16), (if c.toNat % 16 < 10 then 48 + c.toNat % 16 else 87 + c.toNat % 16)] else #[c.toNat] : Array Nat)) (fun c => shown_len _ _) b.toList #[98, (if b.contains 39 && !b.contains 34 then 34 else 39)]
  rw [Array.length_toList] at h
  have h2 : (#[98, (if b.contains 39 && !b.contains 34 then 34 else 39)] : Array Nat).size = 2 := rfl
  rw [h2] at h
  refine Nat.le_trans (Nat.succ_le_succ h) (by omega)
theorem repr_of_bytes {prog : Program} {w : World} {A : Around} {E : Value → Shared → Prop} {s : Shared} {b : Array UInt8} {t : Tok} {Q : Value → Shared → Prop} (hz : b.size ≤ 5000) (h : Q (.str (Bytes.literal b) s.toks) { s with toks := s.toks + 1 }) :
    wpAny (model prog w) A (call (.builtin "repr") [.bytes b t]) Q E s :=
  call_repr_gives (PySem.W.typeIs_bytes s b t) slot_bytes_repr entry_bytes_repr (args_bytes_repr_1 _) (gives_bytes_repr b t hz) h (hx := Nat.le_trans (literal_len b) (by rw [sizeLine_eq]; omega))
end PySem.BtR
namespace Th
open PySem PySem.Spec PyProof.Rows L2
local macro_rules | `(tactic| walk_at "lk") => `(tactic| first
  | assumption
  | exact upd_same
  | (refine upd_old (by assumption) ?_; walk_at "lk")
  | (refine upd_diff (by assumption) ?_; walk_at "lk")
  | (refine upd_diff (Ne.symm (by assumption)) ?_; walk_at "lk"))
local macro_rules | `(tactic| walk_at "cnd") => `(tactic| first
  | omega
  | (refine ⟨by omega, by omega⟩)
  | (refine ⟨by omega, by omega, by omega⟩)
  | (refine .inl ⟨by omega, by omega⟩)
  | (refine .inr ⟨by omega, by omega⟩)
  | (exact (show CPow _ _ from ⟨by decide, by decide, by omega⟩))
  | decide +kernel
  | (unfold CMulW; decide +kernel)
  | (exact wide_div (b := 64) (by omega) (by omega) (by decide) (by decide)))
local macro_rules | `(tactic| walk_at "rd1") => `(tactic| first
  | (with_reducible refine r_seq ?_)
  | (with_reducible refine r_asg ?_)
  | (with_reducible refine r_ret ?_)
  | (with_reducible refine r_if ?_)
  | (with_reducible refine r_gname ?_)
  | ((with_reducible refine' r_var ?hv ?_); (case hv => exact rfl))
  | (with_reducible refine r_c ?_)
  | (with_reducible refine r_op ?_)
  | (with_reducible refine r_I0 ?_)
  | ((with_reducible refine r_I ?hc ?_); (case hc => walk_at "cnd"))
  | (with_reducible refine r_test ?_)
  | (with_reducible refine r_tB ?_)
  | (with_reducible refine r_bl ?_)
  | (with_reducible refine r_not ?_)
  | (with_reducible refine r_and ?_)
  | (with_reducible refine r_or ?_)
  | (with_reducible refine r_ifE ?_)
  | (with_reducible refine r_notV ?_)
  | (with_reducible refine r_andV ?_)
  | (with_reducible refine r_orV ?_)
  | (with_reducible refine r_chain ?_)
  | (with_reducible refine r_cb ?_)
  | (with_reducible refine r_call ?_)
  | (with_reducible refine r_callN ?_)
  | (with_reducible refine r_nil ?_)
  | (with_reducible refine r_cons ?_)
  | ((with_reducible refine r_lst ?_))
  | ((with_reducible refine r_tup ?_))
  | ((with_reducible refine r_new ?_ ?_); (exact Nat.le_of_ble_eq_true rfl); (intro p hp))
  | (with_reducible refine r_rInt1 ?_)
  | (with_reducible refine r_rIntB ?_)
  | (with_reducible refine r_rAbs ?_)
  | (with_reducible refine r_rMin2 ?_)
  | (with_reducible refine r_rMax2 ?_)
  | ((with_reducible refine r_rLenZ ?hz ?_); (case hz => first | assumption | exact Nat.le_of_ble_eq_true rfl | (refine Nat.le_trans ?_ (by decide : 100000 ≤ sizeLine); omega)))
  | ((with_reducible refine r_addZ ?hz ?_); (case hz => (refine Nat.le_trans ?_ (by decide : 100000 ≤ sizeLine); first | omega | (simp only [Str.length] at *; simp; omega))))
  | ((with_reducible refine r_mulZ ?hz ?h0 ?h1 ?_); (case hz => first | omega | exact Nat.le_of_ble_eq_true rfl); (case h0 => omega); (case h1 => omega))
  | ((with_reducible refine' r_rLenQ ?h1 ?_); (case h1 => first | (exact .inl (by assumption)) | (exact .inr (by assumption)) | (exact .inl (SqL.of (by walk_at "lk"))) | (exact .inr (SqT.of (by walk_at "lk")))))
  | ((with_reducible refine r_eq ?hs ?_); (case hs => exact rfl))
  | ((with_reducible refine r_ne ?hs ?_); (case hs => exact rfl))
  | (with_reducible refine r_inC ?_)
  | ((with_reducible refine' r_cat ?h1 ?h2 ?h3 ?_); (case h1 => walk_at "lk"); (case h2 => walk_at "lk"); (case h3 => exact Nat.le_of_ble_eq_true rfl); (intro p hp))
  | ((with_reducible refine' r_rep ?h1 ?h2 ?h3 ?h4 ?_); (case h1 => walk_at "lk"); (case h2 => omega); (case h3 => omega); (case h4 => exact Nat.le_of_ble_eq_true rfl); (intro p hp))
  | ((with_reducible refine' r_append ?h1 ?h2 ?_); (case h1 => walk_at "lk"); (case h2 => first | exact (show _ + 1 ≤ sizeLine from Nat.le_of_ble_eq_true rfl) | exact Nat.lt_of_le_of_lt (by omega : _ ≤ 100000) (by decide)))
  | (with_reducible refine r_bm ?_)
  | ((with_reducible refine' r_tyL ?h1 ?_); (case h1 => walk_at "lk"))
  | ((with_reducible refine' r_ixL ?h1 ?h2 ?_); (case h1 => first | assumption | exact SqL.of (by walk_at "lk")); (case h2 => exact rfl))
  | ((with_reducible refine' r_ixT ?h1 ?h2 ?_); (case h1 => first | assumption | exact SqT.of (by walk_at "lk")); (case h2 => exact rfl))
  | (with_reducible refine r_gsub ?_)
  | ((with_reducible refine' r_setL ?h1 ?h2 ?_); (case h1 => walk_at "lk"); (case h2 => exact rfl))
  | (with_reducible refine r_un ?_)
  | (with_reducible refine r_neg ?_)
  | (with_reducible refine r_iteT ?_)
  | (with_reducible refine r_iteNT ?_)
  | (with_reducible refine r_iteNF ?_)
  | (with_reducible refine r_iteF ?_)
  | (with_reducible refine r_next ?_)
  | (with_reducible refine r_drop ?_)
  | (with_reducible refine r_cont ?_)
  | (with_reducible refine r_brk ?_))
local macro_rules | `(tactic| walk_at "ty") => `(tactic| first
  | assumption
  | exact .base (.int _)
  | exact .base (.str _)
  | exact .base (.bl _)
  | exact .base .non
  | exact .byt _
  | exact .base (.lst (by walk_at "lk"))
  | exact .base (.tup (by walk_at "lk")))
local macro_rules | `(tactic| walk_at "rd2") => `(tactic| first
  | walk_at "rd1"
  | ((with_reducible refine' r_isi true ?ht ?hk ?_); (case ht => walk_at "ty"); (case hk => first | assumption | decide +kernel))
  | ((with_reducible refine' r_isi false ?ht ?hk ?_); (case ht => walk_at "ty"); (case hk => first | assumption | decide +kernel))
  | ((with_reducible refine' r_isiT2 true true ?hT ?ht ?hk ?hk2 ?_); (case hT => walk_at "lk"); (case ht => walk_at "ty"); (case hk => decide +kernel); (case hk2 => decide +kernel))
  | ((with_reducible refine' r_isiT2 true false ?hT ?ht ?hk ?hk2 ?_); (case hT => walk_at "lk"); (case ht => walk_at "ty"); (case hk => decide +kernel); (case hk2 => decide +kernel))
  | ((with_reducible refine' r_isiT2 false true ?hT ?ht ?hk ?hk2 ?_); (case hT => walk_at "lk"); (case ht => walk_at "ty"); (case hk => decide +kernel); (case hk2 => decide +kernel))
  | ((with_reducible refine' r_isiT2 false false ?hT ?ht ?hk ?hk2 ?_); (case hT => walk_at "lk"); (case ht => walk_at "ty"); (case hk => decide +kernel); (case hk2 => decide +kernel))
  | (with_reducible refine r_iteNT ?_)
  | ((show (if (!true) = true then _ else _)); refine r_iteNT ?_)
  | (with_reducible refine r_r1 ?_)
  | (with_reducible refine r_maks ?_)
  | (with_reducible refine r_sfld ?_)
  | ((with_reducible refine' r_sfldE ?h1 ?h2 ?h3 ?h4 ?_); (case h1 => walk_at "lk"); (case h2 => assumption); (case h3 => assumption); (case h4 => exact (show _ + 1 ≤ 1000 from Nat.le_of_ble_eq_true rfl)))
  | (with_reducible refine r_fld ?_)
  | (with_reducible refine r_join ?_)
  | (with_reducible refine r_jcons ?_)
  | (with_reducible refine r_jnil ?_)
  | ((with_reducible refine r_rLenY ?hz ?_); (case hz => first | assumption | (refine Nat.le_trans ?_ (by decide : 100000 ≤ sizeLine); omega)))
  | (with_reducible refine r_par ?_)
  | (with_reducible refine r_pair ?_)
  | (with_reducible refine r_par3 ?_)
  | (with_reducible refine r_trip ?_)
  | ((with_reducible refine' r_gtup ?h1 ?h2 ?_); (case h1 => first | assumption | exact SqT.of (by walk_at "lk")); (case h2 => exact rfl))
  | (with_reducible refine r_gcons ?_)
  | (with_reducible refine r_gnil ?_)
  | ((with_reducible refine' r_slL ?h1 ?_); (case h1 => first | assumption | exact SqL.of (by walk_at "lk")); (intro p hp))
  | (with_reducible refine r_iTup ?_)
  | ((with_reducible refine' r_tupE ?h1 ?_); (case h1 => first | assumption | exact SqT.of (by walk_at "lk")))
  | (with_reducible refine r_m1 ?_)
  | (with_reducible refine r_isZ ?_)
  | (with_reducible refine r_sl ?_)
  | (with_reducible refine r_noPart ?_)
  | (with_reducible refine r_part ?_)
  | (with_reducible refine r_partE ?_)
  | ((with_reducible refine r_slS ?hz ?_); (case hz => first | assumption | (refine Nat.le_trans ?_ (by decide : 100000 ≤ sizeLine); omega)))
  | ((with_reducible refine' r_inT ?h1 ?h2 ?h3 ?_); (case h1 => first | assumption | (exact SqT.of (by walk_at "lk"))); (case h2 => exact rfl); (case h3 => exact rfl))
  | ((with_reducible refine' r_inL ?h1 ?h2 ?h3 ?_); (case h1 => first | assumption | (exact SqL.of (by walk_at "lk"))); (case h2 => exact rfl); (case h3 => exact rfl))
  | (with_reducible refine r_lc ?_)
  | (with_reducible refine r_for ?_)
  | (with_reducible refine r_iStr ?_)
  | (with_reducible refine r_strE ?_)
  | (with_reducible refine r_iList ?_)
  | ((with_reducible refine' r_listE ?h1 ?_); (case h1 => first | assumption | exact SqL.of (by walk_at "lk")))
  | (with_reducible refine r_iRng1 ?_)
  | ((with_reducible refine' r_rngE ?h0 ?h1 ?_); (case h0 => first | omega | (split <;> omega)); (case h1 => first | omega | (split <;> omega))))
local macro_rules | `(tactic| walk_at "rd") => `(tactic| (repeat walk_at "rd2"))
local macro_rules | `(tactic| walk_at "st") => `(tactic| (repeat (first
  | (with_reducible refine r_gname ?_)
  | (with_reducible refine r_next ?_)
  | (with_reducible refine r_seq ?_)
  | (with_reducible refine r_asg ?_)
  | (with_reducible refine r_ret ?_)
  | (with_reducible refine r_for ?_)
  | (with_reducible refine r_iRng1 ?_)
  | (with_reducible refine r_iList ?_)
  | (with_reducible refine r_cons ?_)
  | (with_reducible refine r_par ?_)
  | (with_reducible refine r_par3 ?_))))
def topS (i : Nat) : Stmt := PySem.Challenge.pw_tarhouse_k05_headers_built.main.body.getD i (.Pass ⟨0, 0, 0, 0⟩)
abbrev s_is_integer : Stmt := topS 18
abbrev N_is_integer : List Str := ["thing"]
theorem sc_is_integer : FnScope N_is_integer ["thing"] (defScope s_is_integer) := ⟨rfl, rfl, rfl, by decide +kernel, rfl, by decide +kernel, by decide +kernel⟩
abbrev s_is_integer_within : Stmt := topS 19
abbrev N_is_integer_within : List Str := ["thing", "least", "most"]
theorem sc_is_integer_within : FnScope N_is_integer_within ["thing", "least", "most"] (defScope s_is_integer_within) := ⟨rfl, rfl, rfl, by decide +kernel, rfl, by decide +kernel, by decide +kernel⟩
abbrev s_blob : Stmt := topS 21
abbrev N_blob : List Str := ["numbers"]
theorem sc_blob : FnScope N_blob ["numbers"] (defScope s_blob) := ⟨rfl, rfl, rfl, by decide +kernel, rfl, by decide +kernel, by decide +kernel⟩
abbrev s_is_row_of_bytes : Stmt := topS 22
abbrev N_is_row_of_bytes : List Str := ["thing", "number"]
theorem sc_is_row_of_bytes : FnScope N_is_row_of_bytes ["thing"] (defScope s_is_row_of_bytes) := ⟨rfl, rfl, rfl, by decide +kernel, rfl, by decide +kernel, by decide +kernel⟩
abbrev s_header : Stmt := topS 12
abbrev N_header : List Str := ["kind", "name", "mode", "size", "time", "target", "front", "back"]
theorem sc_header : FnScope N_header ["kind", "name", "mode", "size", "time", "target"] (defScope s_header) := ⟨rfl, rfl, rfl, by decide +kernel, rfl, by decide +kernel, by decide +kernel⟩
abbrev s_checksum : Stmt := topS 13
abbrev N_checksum : List Str := ["block"]
theorem sc_checksum : FnScope N_checksum ["block"] (defScope s_checksum) := ⟨rfl, rfl, rfl, by decide +kernel, rfl, by decide +kernel, by decide +kernel⟩
abbrev s_checksum_field : Stmt := topS 14
abbrev N_checksum_field : List Str := ["block"]
theorem sc_checksum_field : FnScope N_checksum_field ["block"] (defScope s_checksum_field) := ⟨rfl, rfl, rfl, by decide +kernel, rfl, by decide +kernel, by decide +kernel⟩
abbrev s_text_field : Stmt := topS 15
abbrev N_text_field : List Str := ["text", "data"]
theorem sc_text_field : FnScope N_text_field ["text"] (defScope s_text_field) := ⟨rfl, rfl, rfl, by decide +kernel, rfl, by decide +kernel, by decide +kernel⟩
abbrev s_octal_field : Stmt := topS 16
abbrev N_octal_field : List Str := ["number", "size"]
theorem sc_octal_field : FnScope N_octal_field ["number", "size"] (defScope s_octal_field) := ⟨rfl, rfl, rfl, by decide +kernel, rfl, by decide +kernel, by decide +kernel⟩
abbrev s__law_source : Stmt := topS 24
abbrev N__law_source : List Str := ["_law_script", "_law_at", "_law_cell", "_law_large", "_law_mix", "_law_k"]
theorem sc__law_source : FnScope N__law_source ["_law_script", "_law_at"] (defScope s__law_source) := ⟨rfl, rfl, rfl, by decide +kernel, rfl, by decide +kernel, by decide +kernel⟩
abbrev s__law_draw : Stmt := topS 25
abbrev N__law_draw : List Str := ["_law_source_here", "_law_many", "_law_digit"]
theorem sc__law_draw : FnScope N__law_draw ["_law_source_here", "_law_many"] (defScope s__law_draw) := ⟨rfl, rfl, rfl, by decide +kernel, rfl, by decide +kernel, by decide +kernel⟩
abbrev s__law_random_name : Stmt := topS 26
abbrev N__law_random_name : List Str := ["_law_source_here", "_law_many", "_law_found", "_law_k"]
theorem sc__law_random_name : FnScope N__law_random_name ["_law_source_here", "_law_many"] (defScope s__law_random_name) := ⟨rfl, rfl, rfl, by decide +kernel, rfl, by decide +kernel, by decide +kernel⟩
abbrev s__law_any_name : Stmt := topS 27
abbrev N__law_any_name : List Str := ["_law_source_here", "_law_way", "_law_width2", "_law_base"]
theorem sc__law_any_name : FnScope N__law_any_name ["_law_source_here"] (defScope s__law_any_name) := ⟨rfl, rfl, rfl, by decide +kernel, rfl, by decide +kernel, by decide +kernel⟩
abbrev s__law_codes : Stmt := topS 28
abbrev N__law_codes : List Str := ["_law_text", "_law_sign"]
theorem sc__law_codes : FnScope N__law_codes ["_law_text"] (defScope s__law_codes) := ⟨rfl, rfl, rfl, by decide +kernel, rfl, by decide +kernel, by decide +kernel⟩
abbrev s__law_octal : Stmt := topS 29
abbrev N__law_octal : List Str := ["_law_number", "_law_width", "_law_digits", "_law_k"]
theorem sc__law_octal : FnScope N__law_octal ["_law_number", "_law_width"] (defScope s__law_octal) := ⟨rfl, rfl, rfl, by decide +kernel, rfl, by decide +kernel, by decide +kernel⟩
abbrev s__law_head : Stmt := topS 30
abbrev N__law_head : List Str := ["_law_letter", "_law_label", "_law_numbers", "_law_aim2", "_law_front", "_law_behind"]
theorem sc__law_head : FnScope N__law_head ["_law_letter", "_law_label", "_law_numbers", "_law_aim2"] (defScope s__law_head) := ⟨rfl, rfl, rfl, by decide +kernel, rfl, by decide +kernel, by decide +kernel⟩
abbrev s__law_total : Stmt := topS 32
abbrev N__law_total : List Str := ["_law_numbers"]
theorem sc__law_total : FnScope N__law_total ["_law_numbers"] (defScope s__law_total) := ⟨rfl, rfl, rfl, by decide +kernel, rfl, by decide +kernel, by decide +kernel⟩
abbrev s__law_refused : Stmt := topS 31
abbrev N__law_refused : List Str := ["_law_thing", "e", "_law_is_alone"]
theorem sc__law_refused : FnScope N__law_refused ["_law_thing"] (defScope s__law_refused) := ⟨rfl, rfl, rfl, by decide +kernel, rfl, by decide +kernel, by decide +kernel⟩
abbrev s_law : Stmt := topS 33
abbrev N_law : List Str := ["_law_script", "_law_k", "_law_source_here", "_law_turn", "_law_letter", "_law_some", "_law_text", "_law_aim", "_law_numbers", "_law_due", "_law_made", "_law_at", "_law_other", "_law_odd", "_law_plain"]
theorem sc_law : FnScope N_law ["_law_script"] (defScope s_law) := ⟨rfl, rfl, rfl, by decide +kernel, rfl, by decide +kernel, by decide +kernel⟩
/-- the state of the drawing: three ints -/
def Src (H : Hp) (a : Addr) : Prop := ∃ l m c : Int, H a = some (.lst [.int l, .int m, .int c]) ∧ 0 ≤ l ∧ 0 ≤ m ∧ m < 2147483647
def spDraw : Sp := fun vs H Q _ => ∃ (a : Addr) (n : Int), vs = [.ref a, .int n] ∧ Src H a ∧ 0 < n ∧ n < 1000000000000 ∧ ∀ (d : Int) H', 0 ≤ d → d < n → Src H' a → But a H H' → Q (.int d) H'
theorem sp_draw {a : Addr} {n : Int} {H : Hp} {Q : VK} {E : XK} (h : Src H a) (h0 : 0 < n) (h1 : n < 1000000000000) (k : ∀ (d : Int) H', 0 ≤ d → d < n → Src H' a → But a H H' → Q (.int d) H') : spDraw ([.ref a, .int n] ++ []) H Q E := ⟨a, n, rfl, h, h0, h1, k⟩
section
variable {P : Program} {w : World} {K : PySem.W.Frag} {mg : Str → Option Value} {base : Heap}
theorem ok_draw {f : Addr} {fd : FuncData} {k : Nat} (F : Fun K "_law_draw" "_law_draw" s__law_draw f fd) (mi : mg "int" = none) : FnOk P w K mg base CX0 (k + 2) f fd ["_law_source_here", "_law_many"] spDraw := by
  refine F.ok sc__law_draw (fun vs H Q E h => ?_) (fun cdv A outer s H vs Q E hr h => ?_)
  · obtain ⟨a, n, rfl, _⟩ := h
    rfl
  · obtain ⟨a, n, rfl, ⟨l, m, c, ha, hl0, hm0, hm1⟩, hn0, hn1, q⟩ := h
    have hu := hu_of hr
    have nd := sc__law_draw.nd
    refine ⟨_, (pss_cons (ps_if (pt_cmpR op_gt (pe_ix (ix_listK K) (pv 0) pe_int (fun _ _ => rfl)) pe_int (nomark _))
        (pss_cons (ps_set (i := 2) nd rfl (Or.inl rfl) (pe_op op_mod (pe_callTy call_rInt1 (by rfl) (by assumption) (by decide +kernel) (pa_cons (pe_ix (ix_listK K) (pv 0) pe_int (fun _ _ => rfl)) pa_nil)) (pv 1)))
      (pss_cons (ps_asg (pe_op op_fdivW (pe_ix (ix_listK K) (pv 0) pe_int (fun _ _ => rfl)) (pv 1)) (pg_sub (pv 0) pe_int set_list))
      (pss_one (ps_ret (pv 2)))))
        pss_nil)
      (pss_cons (ps_asg (pe_op op_add (pe_ix (ix_listK K) (pv 0) pe_int (fun _ _ => rfl)) pe_int) (pg_sub (pv 0) pe_int set_list))
      (pss_cons (ps_asg (pe_op op_mod (pe_callTy call_rInt1 (by rfl) (by assumption) (by decide +kernel) (pa_cons (pe_op op_add (pe_op op_add (pe_op op_pow (pe_ix (ix_listK K) (pv 0) pe_int (fun _ _ => rfl)) pe_int) (pe_op op_mul pe_int (pe_ix (ix_listK K) (pv 0) pe_int (fun _ _ => rfl)))) pe_int) pa_nil)) pe_int) (pg_sub (pv 0) pe_int set_list))
      (pss_one (ps_ret (pe_op op_mod (pe_callTy call_rInt1 (by rfl) (by assumption) (by decide +kernel) (pa_cons (pe_op op_fdivW (pe_op op_mod (pe_callTy call_rInt1 (by rfl) (by assumption) (by decide +kernel) (pa_cons (pe_op op_mul (pe_ix (ix_listK K) (pv 0) pe_int (fun _ _ => rfl)) pe_int) pa_nil)) pe_int) pe_int) pa_nil)) (pv 1))))))), ?_⟩
    walk_at "rd"
    refine r_iteD (fun h0 => ?_) (fun h0 => ?_)
    · walk_at "rd"
      refine q _ _ (Int.emod_nonneg _ (by omega)) (Int.emod_lt_of_pos _ hn0) ⟨l / n, m, c, upd_same, Int.ediv_nonneg hl0 (by omega), hm0, hm1⟩ (fun b o nb e => by rw [upd_ne nb]; exact e)
    · walk_at "rd"
      refine q _ _ (Int.emod_nonneg _ (by omega)) (Int.emod_lt_of_pos _ hn0) ⟨l, _, c + 1, upd_same, hl0, Int.emod_nonneg _ (by decide), Int.emod_lt_of_pos _ (by decide)⟩ (fun b o nb e => by rw [upd_ne nb, upd_ne nb]; exact e)
/-! ### the program's defs -/
def spIsI : Sp := fun vs H Q _ => ∃ i : Int, vs = [.int i] ∧ Q (.bl true) H
theorem sp_isI {i : Int} {H : Hp} {Q : VK} {E : XK} (k : Q (.bl true) H) : spIsI ([.int i] ++ []) H Q E := ⟨i, rfl, k⟩
theorem ok_isI {f : Addr} {fd : FuncData} {k : Nat} (F : Fun K "is_integer" "is_integer" s_is_integer f fd) (m1 : mg "isinstance" = none) (m2 : mg "bool" = none) (m3 : mg "int" = none) : FnOk P w K mg base CX0 (k + 1) f fd ["thing"] spIsI := by
  refine F.ok sc_is_integer (fun vs H Q E h => ?_) (fun cdv A outer s H vs Q E hr h => ?_)
  · obtain ⟨i, rfl, _⟩ := h
    rfl
  · obtain ⟨i, rfl, q⟩ := h
    have hu := hu_of hr
    have nd := sc_is_integer.nd
    refine ⟨_, (pss_one (ps_ret (pe_and (pe_callB (call_isiK1 K) (by rfl) (by assumption) (by decide +kernel) (pa_cons (pv 0) (pa_cons (pe_bltn (v := .ty "int") (by rfl) (by assumption) (by decide +kernel) rfl) pa_nil))) (pe_one (pe_not (pe_callB (call_isiK1 K) (by rfl) (by assumption) (by decide +kernel) (pa_cons (pv 0) (pa_cons (pe_bltn (v := .ty "bool") (by rfl) (by assumption) (by decide +kernel) rfl) pa_nil)))))))), ?_⟩
    walk_at "rd"
    exact q
def spWithin : Sp := fun vs H Q _ => ∃ (i lo hi : Int), vs = [.int i, .int lo, .int hi] ∧ Q (.bl (decide (lo ≤ i) && decide (i ≤ hi))) H
theorem ok_within {f : Addr} {fd : FuncData} {k : Nat} (F : Fun K "is_integer_within" "is_integer_within" s_is_integer_within f fd) (c_isI : CalT P w K mg base 1 "is_integer" spIsI) : FnOk P w K mg base CX0 (k + 2) f fd ["thing", "least", "most"] spWithin := by
  refine F.ok sc_is_integer_within (fun vs H Q E h => ?_) (fun cdv A outer s H vs Q E hr h => ?_)
  · obtain ⟨i, lo, hi, rfl, _⟩ := h
    rfl
  · obtain ⟨i, lo, hi, rfl, q⟩ := h
    have hu := hu_of hr
    have nd := sc_is_integer_within.nd
    refine ⟨_, (pss_one (ps_ret (pe_and (pe_cc c_isI hr (by omega) (by rfl) (pa_cons (pv 0) pa_nil)) (pe_one (pe_chain op_le op_le (pv 1) (pv 0) (pv 2)))))), ?_⟩
    walk_at "rd"
    refine sp_isI ?_
    walk_at "rd"
    refine r_iteD (fun h1 => ?_) (fun h1 => ?_)
    · walk_at "rd"
      rw [decide_eq_true h1, Bool.true_and] at q
      exact q
    · walk_at "rd"
      rw [decide_eq_false h1, Bool.false_and] at q
      exact q
theorem sp_within {i lo hi : Int} {H : Hp} {Q : VK} {E : XK} (k : Q (.bl (decide (lo ≤ i) && decide (i ≤ hi))) H) : spWithin ([.int i, .int lo, .int hi] ++ []) H Q E := ⟨i, lo, hi, rfl, k⟩
end
end Th
namespace Th
open PySem PySem.Spec PyProof.Rows L2
local macro_rules | `(tactic| walk_at "lk") => `(tactic| first
  | assumption
  | exact upd_same
  | (refine upd_old (by assumption) ?_; walk_at "lk")
  | (refine upd_diff (by assumption) ?_; walk_at "lk")
  | (refine upd_diff (Ne.symm (by assumption)) ?_; walk_at "lk"))
local macro_rules | `(tactic| walk_at "cnd") => `(tactic| first
  | omega
  | (refine ⟨by omega, by omega⟩)
  | (refine ⟨by omega, by omega, by omega⟩)
  | (refine .inl ⟨by omega, by omega⟩)
  | (refine .inr ⟨by omega, by omega⟩)
  | (exact (show CPow _ _ from ⟨by decide, by decide, by omega⟩))
  | decide +kernel
  | (unfold CMulW; decide +kernel)
  | (exact wide_div (b := 64) (by omega) (by omega) (by decide) (by decide)))
local macro_rules | `(tactic| walk_at "rd1") => `(tactic| first
  | (with_reducible refine r_seq ?_)
  | (with_reducible refine r_asg ?_)
  | (with_reducible refine r_ret ?_)
  | (with_reducible refine r_if ?_)
  | (with_reducible refine r_gname ?_)
  | ((with_reducible refine' r_var ?hv ?_); (case hv => exact rfl))
  | (with_reducible refine r_c ?_)
  | (with_reducible refine r_op ?_)
  | (with_reducible refine r_I0 ?_)
  | ((with_reducible refine r_I ?hc ?_); (case hc => walk_at "cnd"))
  | (with_reducible refine r_test ?_)
  | (with_reducible refine r_tB ?_)
  | (with_reducible refine r_bl ?_)
  | (with_reducible refine r_not ?_)
  | (with_reducible refine r_and ?_)
  | (with_reducible refine r_or ?_)
  | (with_reducible refine r_ifE ?_)
  | (with_reducible refine r_notV ?_)
  | (with_reducible refine r_andV ?_)
  | (with_reducible refine r_orV ?_)
  | (with_reducible refine r_chain ?_)
  | (with_reducible refine r_cb ?_)
  | (with_reducible refine r_call ?_)
  | (with_reducible refine r_callN ?_)
  | (with_reducible refine r_nil ?_)
  | (with_reducible refine r_cons ?_)
  | ((with_reducible refine r_lst ?_))
  | ((with_reducible refine r_tup ?_))
  | ((with_reducible refine r_new ?_ ?_); (exact Nat.le_of_ble_eq_true rfl); (intro p hp))
  | (with_reducible refine r_rInt1 ?_)
  | (with_reducible refine r_rIntB ?_)
  | (with_reducible refine r_rAbs ?_)
  | (with_reducible refine r_rMin2 ?_)
  | (with_reducible refine r_rMax2 ?_)
  | ((with_reducible refine r_rLenZ ?hz ?_); (case hz => first | assumption | exact Nat.le_of_ble_eq_true rfl | (refine Nat.le_trans ?_ (by decide : 100000 ≤ sizeLine); omega)))
  | ((with_reducible refine r_addZ ?hz ?_); (case hz => (refine Nat.le_trans ?_ (by decide : 100000 ≤ sizeLine); first | omega | (simp only [Str.length] at *; simp; omega))))
  | ((with_reducible refine r_mulZ ?hz ?h0 ?h1 ?_); (case hz => first | omega | exact Nat.le_of_ble_eq_true rfl); (case h0 => omega); (case h1 => omega))
  | ((with_reducible refine' r_rLenQ ?h1 ?_); (case h1 => first | (exact .inl (by assumption)) | (exact .inr (by assumption)) | (exact .inl (SqL.of (by walk_at "lk"))) | (exact .inr (SqT.of (by walk_at "lk")))))
  | ((with_reducible refine r_eq ?hs ?_); (case hs => exact rfl))
  | ((with_reducible refine r_ne ?hs ?_); (case hs => exact rfl))
  | (with_reducible refine r_inC ?_)
  | ((with_reducible refine' r_cat ?h1 ?h2 ?h3 ?_); (case h1 => walk_at "lk"); (case h2 => walk_at "lk"); (case h3 => exact Nat.le_of_ble_eq_true rfl); (intro p hp))
  | ((with_reducible refine' r_rep ?h1 ?h2 ?h3 ?h4 ?_); (case h1 => walk_at "lk"); (case h2 => omega); (case h3 => omega); (case h4 => exact Nat.le_of_ble_eq_true rfl); (intro p hp))
  | ((with_reducible refine' r_append ?h1 ?h2 ?_); (case h1 => walk_at "lk"); (case h2 => first | exact (show _ + 1 ≤ sizeLine from Nat.le_of_ble_eq_true rfl) | exact Nat.lt_of_le_of_lt (by omega : _ ≤ 100000) (by decide)))
  | (with_reducible refine r_bm ?_)
  | ((with_reducible refine' r_tyL ?h1 ?_); (case h1 => walk_at "lk"))
  | ((with_reducible refine' r_ixL ?h1 ?h2 ?_); (case h1 => first | assumption | exact SqL.of (by walk_at "lk")); (case h2 => exact rfl))
  | ((with_reducible refine' r_ixT ?h1 ?h2 ?_); (case h1 => first | assumption | exact SqT.of (by walk_at "lk")); (case h2 => exact rfl))
  | (with_reducible refine r_gsub ?_)
  | ((with_reducible refine' r_setL ?h1 ?h2 ?_); (case h1 => walk_at "lk"); (case h2 => exact rfl))
  | (with_reducible refine r_un ?_)
  | (with_reducible refine r_neg ?_)
  | (with_reducible refine r_iteT ?_)
  | (with_reducible refine r_iteNT ?_)
  | (with_reducible refine r_iteNF ?_)
  | (with_reducible refine r_iteF ?_)
  | (with_reducible refine r_next ?_)
  | (with_reducible refine r_drop ?_)
  | (with_reducible refine r_cont ?_)
  | (with_reducible refine r_brk ?_))
local macro_rules | `(tactic| walk_at "ty") => `(tactic| first
  | assumption
  | exact .base (.int _)
  | exact .base (.str _)
  | exact .base (.bl _)
  | exact .base .non
  | exact .byt _
  | exact .base (.lst (by walk_at "lk"))
  | exact .base (.tup (by walk_at "lk")))
local macro_rules | `(tactic| walk_at "rd2") => `(tactic| first
  | walk_at "rd1"
  | ((with_reducible refine' r_isi true ?ht ?hk ?_); (case ht => walk_at "ty"); (case hk => first | assumption | decide +kernel))
  | ((with_reducible refine' r_isi false ?ht ?hk ?_); (case ht => walk_at "ty"); (case hk => first | assumption | decide +kernel))
  | ((with_reducible refine' r_isiT2 true true ?hT ?ht ?hk ?hk2 ?_); (case hT => walk_at "lk"); (case ht => walk_at "ty"); (case hk => decide +kernel); (case hk2 => decide +kernel))
  | ((with_reducible refine' r_isiT2 true false ?hT ?ht ?hk ?hk2 ?_); (case hT => walk_at "lk"); (case ht => walk_at "ty"); (case hk => decide +kernel); (case hk2 => decide +kernel))
  | ((with_reducible refine' r_isiT2 false true ?hT ?ht ?hk ?hk2 ?_); (case hT => walk_at "lk"); (case ht => walk_at "ty"); (case hk => decide +kernel); (case hk2 => decide +kernel))
  | ((with_reducible refine' r_isiT2 false false ?hT ?ht ?hk ?hk2 ?_); (case hT => walk_at "lk"); (case ht => walk_at "ty"); (case hk => decide +kernel); (case hk2 => decide +kernel))
  | (with_reducible refine r_iteNT ?_)
  | ((show (if (!true) = true then _ else _)); refine r_iteNT ?_)
  | (with_reducible refine r_r1 ?_)
  | (with_reducible refine r_maks ?_)
  | (with_reducible refine r_sfld ?_)
  | ((with_reducible refine' r_sfldE ?h1 ?h2 ?h3 ?h4 ?_); (case h1 => walk_at "lk"); (case h2 => assumption); (case h3 => assumption); (case h4 => exact (show _ + 1 ≤ 1000 from Nat.le_of_ble_eq_true rfl)))
  | (with_reducible refine r_fld ?_)
  | (with_reducible refine r_join ?_)
  | (with_reducible refine r_jcons ?_)
  | (with_reducible refine r_jnil ?_)
  | ((with_reducible refine r_rLenY ?hz ?_); (case hz => first | assumption | (refine Nat.le_trans ?_ (by decide : 100000 ≤ sizeLine); omega)))
  | (with_reducible refine r_par ?_)
  | (with_reducible refine r_pair ?_)
  | (with_reducible refine r_par3 ?_)
  | (with_reducible refine r_trip ?_)
  | ((with_reducible refine' r_gtup ?h1 ?h2 ?_); (case h1 => first | assumption | exact SqT.of (by walk_at "lk")); (case h2 => exact rfl))
  | (with_reducible refine r_gcons ?_)
  | (with_reducible refine r_gnil ?_)
  | ((with_reducible refine' r_slL ?h1 ?_); (case h1 => first | assumption | exact SqL.of (by walk_at "lk")); (intro p hp))
  | (with_reducible refine r_iTup ?_)
  | ((with_reducible refine' r_tupE ?h1 ?_); (case h1 => first | assumption | exact SqT.of (by walk_at "lk")))
  | (with_reducible refine r_m1 ?_)
  | (with_reducible refine r_isZ ?_)
  | (with_reducible refine r_sl ?_)
  | (with_reducible refine r_noPart ?_)
  | (with_reducible refine r_part ?_)
  | (with_reducible refine r_partE ?_)
  | ((with_reducible refine r_slS ?hz ?_); (case hz => first | assumption | (refine Nat.le_trans ?_ (by decide : 100000 ≤ sizeLine); omega)))
  | ((with_reducible refine' r_inT ?h1 ?h2 ?h3 ?_); (case h1 => first | assumption | (exact SqT.of (by walk_at "lk"))); (case h2 => exact rfl); (case h3 => exact rfl))
  | ((with_reducible refine' r_inL ?h1 ?h2 ?h3 ?_); (case h1 => first | assumption | (exact SqL.of (by walk_at "lk"))); (case h2 => exact rfl); (case h3 => exact rfl))
  | (with_reducible refine r_lc ?_)
  | (with_reducible refine r_for ?_)
  | (with_reducible refine r_iStr ?_)
  | (with_reducible refine r_strE ?_)
  | (with_reducible refine r_iList ?_)
  | ((with_reducible refine' r_listE ?h1 ?_); (case h1 => first | assumption | exact SqL.of (by walk_at "lk")))
  | (with_reducible refine r_iRng1 ?_)
  | ((with_reducible refine' r_rngE ?h0 ?h1 ?_); (case h0 => first | omega | (split <;> omega)); (case h1 => first | omega | (split <;> omega))))
local macro_rules | `(tactic| walk_at "rd") => `(tactic| (repeat walk_at "rd2"))
local macro_rules | `(tactic| walk_at "st") => `(tactic| (repeat (first
  | (with_reducible refine r_gname ?_)
  | (with_reducible refine r_next ?_)
  | (with_reducible refine r_seq ?_)
  | (with_reducible refine r_asg ?_)
  | (with_reducible refine r_ret ?_)
  | (with_reducible refine r_for ?_)
  | (with_reducible refine r_iRng1 ?_)
  | (with_reducible refine r_iList ?_)
  | (with_reducible refine r_cons ?_)
  | (with_reducible refine r_par ?_)
  | (with_reducible refine r_par3 ?_))))
section
variable {P : Program} {w : World} {K : PySem.W.Frag} {mg : Str → Option Value} {base : Heap}
def inByte (i : Int) : Bool := decide (0 ≤ i) && decide (i ≤ 255)
def spRow : Sp := fun vs H Q _ => ∃ (a : Addr) (ns : List Int), vs = [.ref a] ∧ H a = some (.lst (ns.map V.int)) ∧ ns.length ≤ 70000 ∧ ∀ H', Same H H' → Q (.bl (ns.all inByte)) H'
theorem ok_row {f : Addr} {fd : FuncData} {k : Nat} (F : Fun K "is_row_of_bytes" "is_row_of_bytes" s_is_row_of_bytes f fd) (c_within : CalT P w K mg base 2 "is_integer_within" spWithin)
    (m1 : mg "isinstance" = none) (m2 : mg "list" = none) (m3 : mg "tuple" = none) (m4 : mg "all" = none) : FnOk P w K mg base CX0 (k + 3) f fd ["thing"] spRow := by
  refine F.ok sc_is_row_of_bytes (fun vs H Q E h => ?_) (fun cdv A outer s H vs Q E hr h => ?_)
  · obtain ⟨a, ns, rfl, _⟩ := h
    rfl
  · obtain ⟨a, ns, rfl, ha, hz, q⟩ := h
    have hu := hu_of hr
    have nd := sc_is_row_of_bytes.nd
    refine ⟨_, (pss_cons (ps_if (pt_not (pt_val (pe_callB (call_isiK2 K) (by rfl) (by assumption) (by decide +kernel) (pa_cons (pv 0) (pa_cons (pe_tup (pa_cons (pe_bltn (v := .ty "list") (by rfl) (by assumption) (by decide +kernel) rfl) (pa_cons (pe_bltn (v := .ty "tuple") (by rfl) (by assumption) (by decide +kernel) rfl) pa_nil))) pa_nil)))))
        (pss_one (ps_ret pe_bl))
        pss_nil)
      (pss_one (ps_ret (pe_callB (call_allK K) (by rfl) (by assumption) (by decide +kernel) (pa_cons (pe_lc (own := [("number", 1)]) (g := (gName 1)) (tt := tYes) rfl nd (pi_list (pv 0)) (blkOk_by (N := N_is_row_of_bytes) (sc := defScope s_is_row_of_bytes) (by decide +kernel)) (fun _ _ _ _ _ => (pg_name (i := 1) nd rfl (Or.inl rfl))) (fun _ _ _ _ _ => pts_nil) (fun _ _ _ _ _ => (pe_cc c_within hr (by omega) (by rfl) (pa_cons (pv 1) (pa_cons pe_int (pa_cons pe_int pa_nil)))))) pa_nil))))), ?_⟩
    walk_at "rd"
    intro D hD
    refine lc_map (cs := ns) (enc := V.int) (f := fun i => V.bl (inByte i)) walk_list hD (Nat.lt_of_le_of_lt hz (by decide)) (fun H' e => SqL.of (e _ _ (by walk_at "lk"))) (fun x => rfl) ?_ ?_
    · intro c hc H' e Q' k'
      walk_at "rd"
      exact sp_within (k' _ (Same.refl _))
    · intro H' e hl
      walk_at "rd"
      refine r_all (bs := ns.map inByte) (by rw [List.map_map]; exact SqL.of hl) ?_
      have e2 : (ns.map inByte).all id = ns.all inByte := by rw [List.all_map]; rfl
      rw [e2]
      exact q H' (fun b o x => e b o (by walk_at "lk"))
theorem sp_row {a : Addr} {ns : List Int} {H : Hp} {Q : VK} {E : XK} (ha : H a = some (.lst (ns.map V.int))) (hz : ns.length ≤ 70000) (k : ∀ H', Same H H' → Q (.bl (ns.all inByte)) H') : spRow ([.ref a] ++ []) H Q E := ⟨a, ns, rfl, ha, hz, k⟩
def spBlob : Sp := fun vs H Q _ => ∃ (a : Addr) (ns : List Int), vs = [.ref a] ∧ H a = some (.lst (ns.map V.int)) ∧ ns.length ≤ 70000 ∧ ns.all inByte = true ∧ ∀ H', Same H H' → Q (.byt (byteArr ns)) H'
theorem sp_blob {a : Addr} {ns : List Int} {H : Hp} {Q : VK} {E : XK} (ha : H a = some (.lst (ns.map V.int))) (hz : ns.length ≤ 70000) (hb : ns.all inByte = true) (k : ∀ H', Same H H' → Q (.byt (byteArr ns)) H') : spBlob ([.ref a] ++ []) H Q E := ⟨a, ns, rfl, ha, hz, hb, k⟩
theorem ok_blob {f : Addr} {fd : FuncData} {k : Nat} (F : Fun K "blob" "blob" s_blob f fd) (c_row : CalT P w K mg base 3 "is_row_of_bytes" spRow) (m1 : mg "bytes" = none) : FnOk P w K mg base CX0 (k + 4) f fd ["numbers"] spBlob := by
  refine F.ok sc_blob (fun vs H Q E h => ?_) (fun cdv A outer s H vs Q E hr h => ?_)
  · obtain ⟨a, ns, rfl, _⟩ := h
    rfl
  · obtain ⟨a, ns, rfl, ha, hz, hb, q⟩ := h
    have hu := hu_of hr
    have nd := sc_blob.nd
    refine ⟨_, (pss_cons (ps_if (pt_not (pt_val (pe_cc c_row hr (by omega) (by rfl) (pa_cons (pv 0) pa_nil))))
        (pss_one ps_never)
        pss_nil)
      (pss_one (ps_ret (pe_bytesOf rfl (by rfl) (by assumption) (pv 0))))), ?_⟩
    walk_at "rd"
    refine sp_row ha hz (fun H' e => ?_)
    rw [hb]
    walk_at "rd"
    refine r_bytesL (SqL.of (e _ _ ha)) (fun n hn => ?_) (q H' e)
    have h1 := List.all_eq_true.mp hb n hn
    unfold inByte at h1
    simp only [Bool.and_eq_true, decide_eq_true_eq] at h1
    omega
end
/-! ### names -/
def NC : Str := "abcdefghijklmnopqrstuvwxyz0123456789._-/"
def nameB (z : Str) : Bool := decide (1 ≤ z.length) && decide (z.length ≤ 250) && z.cps.toList.all (fun c => decide (c ∈ NC.cps.toList))
def nameV : V → Bool
  | .str z => nameB z
  | _ => false
end Th
namespace Th
open PySem PySem.Spec PyProof.Rows L2
local macro_rules | `(tactic| walk_at "lk") => `(tactic| first
  | assumption
  | exact upd_same
  | (refine upd_old (by assumption) ?_; walk_at "lk")
  | (refine upd_diff (by assumption) ?_; walk_at "lk")
  | (refine upd_diff (Ne.symm (by assumption)) ?_; walk_at "lk"))
local macro_rules | `(tactic| walk_at "cnd") => `(tactic| first
  | omega
  | (refine ⟨by omega, by omega⟩)
  | (refine ⟨by omega, by omega, by omega⟩)
  | (refine .inl ⟨by omega, by omega⟩)
  | (refine .inr ⟨by omega, by omega⟩)
  | (exact (show CPow _ _ from ⟨by decide, by decide, by omega⟩))
  | decide +kernel
  | (unfold CMulW; decide +kernel)
  | (exact wide_div (b := 64) (by omega) (by omega) (by decide) (by decide)))
local macro_rules | `(tactic| walk_at "rd1") => `(tactic| first
  | (with_reducible refine r_seq ?_)
  | (with_reducible refine r_asg ?_)
  | (with_reducible refine r_ret ?_)
  | (with_reducible refine r_if ?_)
  | (with_reducible refine r_gname ?_)
  | ((with_reducible refine' r_var ?hv ?_); (case hv => exact rfl))
  | (with_reducible refine r_c ?_)
  | (with_reducible refine r_op ?_)
  | (with_reducible refine r_I0 ?_)
  | ((with_reducible refine r_I ?hc ?_); (case hc => walk_at "cnd"))
  | (with_reducible refine r_test ?_)
  | (with_reducible refine r_tB ?_)
  | (with_reducible refine r_bl ?_)
  | (with_reducible refine r_not ?_)
  | (with_reducible refine r_and ?_)
  | (with_reducible refine r_or ?_)
  | (with_reducible refine r_ifE ?_)
  | (with_reducible refine r_notV ?_)
  | (with_reducible refine r_andV ?_)
  | (with_reducible refine r_orV ?_)
  | (with_reducible refine r_chain ?_)
  | (with_reducible refine r_cb ?_)
  | (with_reducible refine r_call ?_)
  | (with_reducible refine r_callN ?_)
  | (with_reducible refine r_nil ?_)
  | (with_reducible refine r_cons ?_)
  | ((with_reducible refine r_lst ?_))
  | ((with_reducible refine r_tup ?_))
  | ((with_reducible refine r_new ?_ ?_); (exact Nat.le_of_ble_eq_true rfl); (intro p hp))
  | (with_reducible refine r_rInt1 ?_)
  | (with_reducible refine r_rIntB ?_)
  | (with_reducible refine r_rAbs ?_)
  | (with_reducible refine r_rMin2 ?_)
  | (with_reducible refine r_rMax2 ?_)
  | ((with_reducible refine r_rLenZ ?hz ?_); (case hz => first | assumption | exact Nat.le_of_ble_eq_true rfl | (refine Nat.le_trans ?_ (by decide : 100000 ≤ sizeLine); omega)))
  | ((with_reducible refine r_addZ ?hz ?_); (case hz => (refine Nat.le_trans ?_ (by decide : 100000 ≤ sizeLine); first | omega | (simp only [Str.length] at *; simp; omega))))
  | ((with_reducible refine r_mulZ ?hz ?h0 ?h1 ?_); (case hz => first | omega | exact Nat.le_of_ble_eq_true rfl); (case h0 => omega); (case h1 => omega))
  | ((with_reducible refine' r_rLenQ ?h1 ?_); (case h1 => first | (exact .inl (by assumption)) | (exact .inr (by assumption)) | (exact .inl (SqL.of (by walk_at "lk"))) | (exact .inr (SqT.of (by walk_at "lk")))))
  | ((with_reducible refine r_eq ?hs ?_); (case hs => exact rfl))
  | ((with_reducible refine r_ne ?hs ?_); (case hs => exact rfl))
  | (with_reducible refine r_inC ?_)
  | ((with_reducible refine' r_cat ?h1 ?h2 ?h3 ?_); (case h1 => walk_at "lk"); (case h2 => walk_at "lk"); (case h3 => exact Nat.le_of_ble_eq_true rfl); (intro p hp))
  | ((with_reducible refine' r_rep ?h1 ?h2 ?h3 ?h4 ?_); (case h1 => walk_at "lk"); (case h2 => omega); (case h3 => omega); (case h4 => exact Nat.le_of_ble_eq_true rfl); (intro p hp))
  | ((with_reducible refine' r_append ?h1 ?h2 ?_); (case h1 => walk_at "lk"); (case h2 => first | exact (show _ + 1 ≤ sizeLine from Nat.le_of_ble_eq_true rfl) | exact Nat.lt_of_le_of_lt (by omega : _ ≤ 100000) (by decide)))
  | (with_reducible refine r_bm ?_)
  | ((with_reducible refine' r_tyL ?h1 ?_); (case h1 => walk_at "lk"))
  | ((with_reducible refine' r_ixL ?h1 ?h2 ?_); (case h1 => first | assumption | exact SqL.of (by walk_at "lk")); (case h2 => exact rfl))
  | ((with_reducible refine' r_ixT ?h1 ?h2 ?_); (case h1 => first | assumption | exact SqT.of (by walk_at "lk")); (case h2 => exact rfl))
  | (with_reducible refine r_gsub ?_)
  | ((with_reducible refine' r_setL ?h1 ?h2 ?_); (case h1 => walk_at "lk"); (case h2 => exact rfl))
  | (with_reducible refine r_un ?_)
  | (with_reducible refine r_neg ?_)
  | (with_reducible refine r_iteT ?_)
  | (with_reducible refine r_iteNT ?_)
  | (with_reducible refine r_iteNF ?_)
  | (with_reducible refine r_iteF ?_)
  | (with_reducible refine r_next ?_)
  | (with_reducible refine r_drop ?_)
  | (with_reducible refine r_cont ?_)
  | (with_reducible refine r_brk ?_))
local macro_rules | `(tactic| walk_at "ty") => `(tactic| first
  | assumption
  | exact .base (.int _)
  | exact .base (.str _)
  | exact .base (.bl _)
  | exact .base .non
  | exact .byt _
  | exact .base (.lst (by walk_at "lk"))
  | exact .base (.tup (by walk_at "lk")))
local macro_rules | `(tactic| walk_at "rd2") => `(tactic| first
  | walk_at "rd1"
  | ((with_reducible refine' r_isi true ?ht ?hk ?_); (case ht => walk_at "ty"); (case hk => first | assumption | decide +kernel))
  | ((with_reducible refine' r_isi false ?ht ?hk ?_); (case ht => walk_at "ty"); (case hk => first | assumption | decide +kernel))
  | ((with_reducible refine' r_isiT2 true true ?hT ?ht ?hk ?hk2 ?_); (case hT => walk_at "lk"); (case ht => walk_at "ty"); (case hk => decide +kernel); (case hk2 => decide +kernel))
  | ((with_reducible refine' r_isiT2 true false ?hT ?ht ?hk ?hk2 ?_); (case hT => walk_at "lk"); (case ht => walk_at "ty"); (case hk => decide +kernel); (case hk2 => decide +kernel))
  | ((with_reducible refine' r_isiT2 false true ?hT ?ht ?hk ?hk2 ?_); (case hT => walk_at "lk"); (case ht => walk_at "ty"); (case hk => decide +kernel); (case hk2 => decide +kernel))
  | ((with_reducible refine' r_isiT2 false false ?hT ?ht ?hk ?hk2 ?_); (case hT => walk_at "lk"); (case ht => walk_at "ty"); (case hk => decide +kernel); (case hk2 => decide +kernel))
  | (with_reducible refine r_iteNT ?_)
  | ((show (if (!true) = true then _ else _)); refine r_iteNT ?_)
  | (with_reducible refine r_r1 ?_)
  | (with_reducible refine r_maks ?_)
  | (with_reducible refine r_sfld ?_)
  | ((with_reducible refine' r_sfldE ?h1 ?h2 ?h3 ?h4 ?_); (case h1 => walk_at "lk"); (case h2 => assumption); (case h3 => assumption); (case h4 => exact (show _ + 1 ≤ 1000 from Nat.le_of_ble_eq_true rfl)))
  | (with_reducible refine r_fld ?_)
  | (with_reducible refine r_join ?_)
  | (with_reducible refine r_jcons ?_)
  | (with_reducible refine r_jnil ?_)
  | ((with_reducible refine r_rLenY ?hz ?_); (case hz => first | assumption | (refine Nat.le_trans ?_ (by decide : 100000 ≤ sizeLine); omega)))
  | (with_reducible refine r_par ?_)
  | (with_reducible refine r_pair ?_)
  | (with_reducible refine r_par3 ?_)
  | (with_reducible refine r_trip ?_)
  | ((with_reducible refine' r_gtup ?h1 ?h2 ?_); (case h1 => first | assumption | exact SqT.of (by walk_at "lk")); (case h2 => exact rfl))
  | (with_reducible refine r_gcons ?_)
  | (with_reducible refine r_gnil ?_)
  | ((with_reducible refine' r_slL ?h1 ?_); (case h1 => first | assumption | exact SqL.of (by walk_at "lk")); (intro p hp))
  | (with_reducible refine r_iTup ?_)
  | ((with_reducible refine' r_tupE ?h1 ?_); (case h1 => first | assumption | exact SqT.of (by walk_at "lk")))
  | (with_reducible refine r_m1 ?_)
  | (with_reducible refine r_isZ ?_)
  | (with_reducible refine r_sl ?_)
  | (with_reducible refine r_noPart ?_)
  | (with_reducible refine r_part ?_)
  | (with_reducible refine r_partE ?_)
  | ((with_reducible refine r_slS ?hz ?_); (case hz => first | assumption | (refine Nat.le_trans ?_ (by decide : 100000 ≤ sizeLine); omega)))
  | ((with_reducible refine' r_inT ?h1 ?h2 ?h3 ?_); (case h1 => first | assumption | (exact SqT.of (by walk_at "lk"))); (case h2 => exact rfl); (case h3 => exact rfl))
  | ((with_reducible refine' r_inL ?h1 ?h2 ?h3 ?_); (case h1 => first | assumption | (exact SqL.of (by walk_at "lk"))); (case h2 => exact rfl); (case h3 => exact rfl))
  | (with_reducible refine r_lc ?_)
  | (with_reducible refine r_for ?_)
  | (with_reducible refine r_iStr ?_)
  | (with_reducible refine r_strE ?_)
  | (with_reducible refine r_iList ?_)
  | ((with_reducible refine' r_listE ?h1 ?_); (case h1 => first | assumption | exact SqL.of (by walk_at "lk")))
  | (with_reducible refine r_iRng1 ?_)
  | ((with_reducible refine' r_rngE ?h0 ?h1 ?_); (case h0 => first | omega | (split <;> omega)); (case h1 => first | omega | (split <;> omega))))
local macro_rules | `(tactic| walk_at "rd") => `(tactic| (repeat walk_at "rd2"))
local macro_rules | `(tactic| walk_at "st") => `(tactic| (repeat (first
  | (with_reducible refine r_gname ?_)
  | (with_reducible refine r_next ?_)
  | (with_reducible refine r_seq ?_)
  | (with_reducible refine r_asg ?_)
  | (with_reducible refine r_ret ?_)
  | (with_reducible refine r_for ?_)
  | (with_reducible refine r_iRng1 ?_)
  | (with_reducible refine r_iList ?_)
  | (with_reducible refine r_cons ?_)
  | (with_reducible refine r_par ?_)
  | (with_reducible refine r_par3 ?_))))
section
variable {P : Program} {w : World} {K : PySem.W.Frag} {mg : Str → Option Value} {base : Heap}
def spSource (K : PySem.W.Frag) : Sp := fun vs H Q _ => ∃ (a : Addr) (ns : List Int) (i : Nat), vs = [.ref a, .int (i : Int)] ∧ SqL K H a (ns.map V.int) ∧ ns.length ≤ 63 ∧ i ≤ 63 ∧ ∀ p H', H p = none → Same H H' → Src H' p → Q (.ref p) H'
theorem sp_source {a : Addr} {ns : List Int} {i : Nat} {H : Hp} {Q : VK} {E : XK} (hs : SqL K H a (ns.map V.int)) (hz : ns.length ≤ 63) (hi : i ≤ 63) (k : ∀ p H', H p = none → Same H H' → Src H' p → Q (.ref p) H') : spSource K ([.ref a, .int (i : Int)] ++ []) H Q E := ⟨a, ns, i, rfl, hs, hz, hi, k⟩
theorem ints_at {ns : List Int} {i : Nat} (h : i < ns.length) : (ns.map V.int)[i]? = some (.int ns[i]) := by rw [List.getElem?_map, List.getElem?_eq_getElem h]; rfl
theorem ok_source {f : Addr} {fd : FuncData} {k : Nat} (F : Fun K "_law_source" "_law_source" s__law_source f fd) (m1 : mg "len" = none) (m2 : mg "int" = none) (m3 : mg "abs" = none) (m4 : mg "min" = none) (m5 : mg "range" = none) :
    FnOk P w K mg base CX0 (k + 2) f fd ["_law_script", "_law_at"] (spSource K) := by
  refine F.ok sc__law_source (fun vs H Q E h => ?_) (fun cdv A outer s H vs Q E hr h => ?_)
  · obtain ⟨a, ns, i, rfl, _⟩ := h
    rfl
  · obtain ⟨a, ns, i, rfl, hS, hz, hi, q⟩ := h
    have hu := hu_of hr
    have nd := sc__law_source.nd
    have hml : (ns.map V.int).length = ns.length := List.length_map ..
    refine ⟨_, (pss_cons (ps_set (i := 2) nd rfl (Or.inl rfl) (pe_ifExp (pt_cmpR op_lt (pv 1) (pe_callB (call_lenK K) (by rfl) (by assumption) (by decide +kernel) (pa_cons (pv 0) pa_nil)) (nomark _)) (pe_ix (ix_listK K) (pv 0) (pv 1) (fun _ _ => rfl)) pe_int))
      (pss_cons (ps_set (i := 3) nd rfl (Or.inl rfl) (pe_ifExp (pt_cmpR op_ge (pe_callB call_rAbs (by rfl) (by assumption) (by decide +kernel) (pa_cons (pv 2) pa_nil)) (pe_op op_pow pe_int pe_int) (nomark _)) (pe_op op_mod (pe_callTy call_rInt1 (by rfl) (by assumption) (by decide +kernel) (pa_cons (pe_callB call_rAbs (by rfl) (by assumption) (by decide +kernel) (pa_cons (pv 2) pa_nil)) pa_nil)) (pe_op op_mulW (pe_op op_mulW (pe_op op_pow pe_int pe_int) (pe_op op_pow pe_int pe_int)) (pe_op op_pow pe_int pe_int))) pe_int))
      (pss_cons (ps_set (i := 4) nd rfl (Or.inl rfl) (pe_op op_mod (pe_callTy call_rInt1 (by rfl) (by assumption) (by decide +kernel) (pa_cons (pe_op op_add (pe_op op_add (pv 2) (pe_op op_mul pe_int (pv 1))) pe_int) pa_nil)) pe_int))
      (pss_cons (ps_for PassesOwn.never rfl (pi_range1 (by rfl) (by assumption) (pa_cons (pe_callB call_rMin2 (by rfl) (by assumption) (by decide +kernel) (pa_cons (pe_callB (call_lenK K) (by rfl) (by assumption) (by decide +kernel) (pa_cons (pv 0) pa_nil)) (pa_cons pe_int pa_nil))) pa_nil)) (pg_name (i := 5) nd rfl (Or.inl rfl))
        (pss_one (ps_set (i := 4) nd rfl (Or.inl rfl) (pe_op op_mod (pe_callTy call_rInt1 (by rfl) (by assumption) (by decide +kernel) (pa_cons (pe_op op_add (pe_op op_add (pe_op op_pow (pv 4) pe_int) (pe_op op_mod (pe_callTy call_rInt1 (by rfl) (by assumption) (by decide +kernel) (pa_cons (pe_ix (ix_listK K) (pv 0) (pv 5) (fun _ _ => rfl)) pa_nil)) pe_int)) (pe_op op_mul pe_int (pv 5))) pa_nil)) pe_int))))
      (pss_one (ps_ret (pe_lst (pa_cons (pv 3) (pa_cons (pv 4) (pa_cons pe_int pa_nil)))))))))), ?_⟩
    walk_at "rd"
    refine r_joinI (fun _ => True) (fun cell _ => ?_) (fun Q' k h1 => ?_) (fun Q' k h1 => ?_)
    · walk_at "rd"
      refine r_joinI (fun large => 0 ≤ large) (fun large hl => ?_) (fun Q' k h1 => ?_) (fun Q' k h1 => ?_)
      · walk_at "rd"
        refine for_it (walk_range (lo := 0) (n := (if (9 : Int) < ↑(ns.map V.int).length then 9 else ↑(ns.map V.int).length : Int).toNat)) (fun j σ H' => ∃ (mix : Int) (v : Option V), σ = [some (.ref a), some (.int (i : Int)), some (.int cell), some (.int large), some (.int mix), v] ∧ H' = H ∧ 0 ≤ mix ∧ mix < 2147483647) ?_ (fun _ _ _ _ _ => True.intro) ?_ ?_
        · exact ⟨_, _, rfl, rfl, Int.emod_nonneg _ (by decide), Int.emod_lt_of_pos _ (by decide)⟩
        · rintro j x σ Hc H' hj ⟨mix, v, rfl, rfl, hm0, hm1⟩ ⟨rfl, rfl⟩
          have hj' : j < ns.length := by rw [hml] at hj; split at hj <;> omega
          walk_at "rd"
          refine r_ixL hS (i := (0 : Int) + (j : Int)) (by rw [Int.zero_add]; exact atI_nat (ints_at hj')) ?_
          walk_at "rd"
          exact ⟨_, _, rfl, rfl, Int.emod_nonneg _ (by decide), Int.emod_lt_of_pos _ (by decide)⟩
        · rintro σ Hc ⟨mix, v, rfl, rfl, hm0, hm1⟩
          walk_at "rd"
          rename_i p hp
          exact q p _ hp (same_new hp) ⟨large, mix, 0, upd_same, hl, hm0, hm1⟩
      · walk_at "rd"
        refine k _ (Int.emod_nonneg _ ?_)
        decide +kernel
      · walk_at "rd"
        exact k _ (by decide)
    · have hi' : i < ns.length := by omega
      walk_at "rd"
      refine r_ixL hS (atI_nat (ints_at hi')) ?_
      exact k _ True.intro
    · walk_at "rd"
      exact k _ True.intro
end
end Th
namespace Th
open PySem PySem.Spec PyProof.Rows L2
local macro_rules | `(tactic| walk_at "lk") => `(tactic| first
  | assumption
  | exact upd_same
  | (refine upd_old (by assumption) ?_; walk_at "lk")
  | (refine upd_diff (by assumption) ?_; walk_at "lk")
  | (refine upd_diff (Ne.symm (by assumption)) ?_; walk_at "lk"))
local macro_rules | `(tactic| walk_at "cnd") => `(tactic| first
  | omega
  | (refine ⟨by omega, by omega⟩)
  | (refine ⟨by omega, by omega, by omega⟩)
  | (refine .inl ⟨by omega, by omega⟩)
  | (refine .inr ⟨by omega, by omega⟩)
  | (exact (show CPow _ _ from ⟨by decide, by decide, by omega⟩))
  | decide +kernel
  | (unfold CMulW; decide +kernel)
  | (exact wide_div (b := 64) (by omega) (by omega) (by decide) (by decide)))
local macro_rules | `(tactic| walk_at "rd1") => `(tactic| first
  | (with_reducible refine r_seq ?_)
  | (with_reducible refine r_asg ?_)
  | (with_reducible refine r_ret ?_)
  | (with_reducible refine r_if ?_)
  | (with_reducible refine r_gname ?_)
  | ((with_reducible refine' r_var ?hv ?_); (case hv => exact rfl))
  | (with_reducible refine r_c ?_)
  | (with_reducible refine r_op ?_)
  | (with_reducible refine r_I0 ?_)
  | ((with_reducible refine r_I ?hc ?_); (case hc => walk_at "cnd"))
  | (with_reducible refine r_test ?_)
  | (with_reducible refine r_tB ?_)
  | (with_reducible refine r_bl ?_)
  | (with_reducible refine r_not ?_)
  | (with_reducible refine r_and ?_)
  | (with_reducible refine r_or ?_)
  | (with_reducible refine r_ifE ?_)
  | (with_reducible refine r_notV ?_)
  | (with_reducible refine r_andV ?_)
  | (with_reducible refine r_orV ?_)
  | (with_reducible refine r_chain ?_)
  | (with_reducible refine r_cb ?_)
  | (with_reducible refine r_call ?_)
  | (with_reducible refine r_callN ?_)
  | (with_reducible refine r_nil ?_)
  | (with_reducible refine r_cons ?_)
  | ((with_reducible refine r_lst ?_))
  | ((with_reducible refine r_tup ?_))
  | ((with_reducible refine r_new ?_ ?_); (exact Nat.le_of_ble_eq_true rfl); (intro p hp))
  | (with_reducible refine r_rInt1 ?_)
  | (with_reducible refine r_rIntB ?_)
  | (with_reducible refine r_rAbs ?_)
  | (with_reducible refine r_rMin2 ?_)
  | (with_reducible refine r_rMax2 ?_)
  | ((with_reducible refine r_rLenZ ?hz ?_); (case hz => first | assumption | exact Nat.le_of_ble_eq_true rfl | (refine Nat.le_trans ?_ (by decide : 100000 ≤ sizeLine); omega)))
  | ((with_reducible refine r_addZ ?hz ?_); (case hz => (refine Nat.le_trans ?_ (by decide : 100000 ≤ sizeLine); first | omega | (simp only [Str.length] at *; simp; omega))))
  | ((with_reducible refine r_mulZ ?hz ?h0 ?h1 ?_); (case hz => first | omega | exact Nat.le_of_ble_eq_true rfl); (case h0 => omega); (case h1 => omega))
  | ((with_reducible refine' r_rLenQ ?h1 ?_); (case h1 => first | (exact .inl (by assumption)) | (exact .inr (by assumption)) | (exact .inl (SqL.of (by walk_at "lk"))) | (exact .inr (SqT.of (by walk_at "lk")))))
  | ((with_reducible refine r_eq ?hs ?_); (case hs => exact rfl))
  | ((with_reducible refine r_ne ?hs ?_); (case hs => exact rfl))
  | (with_reducible refine r_inC ?_)
  | ((with_reducible refine' r_cat ?h1 ?h2 ?h3 ?_); (case h1 => walk_at "lk"); (case h2 => walk_at "lk"); (case h3 => exact Nat.le_of_ble_eq_true rfl); (intro p hp))
  | ((with_reducible refine' r_rep ?h1 ?h2 ?h3 ?h4 ?_); (case h1 => walk_at "lk"); (case h2 => omega); (case h3 => omega); (case h4 => exact Nat.le_of_ble_eq_true rfl); (intro p hp))
  | ((with_reducible refine' r_append ?h1 ?h2 ?_); (case h1 => walk_at "lk"); (case h2 => first | exact (show _ + 1 ≤ sizeLine from Nat.le_of_ble_eq_true rfl) | exact Nat.lt_of_le_of_lt (by omega : _ ≤ 100000) (by decide)))
  | (with_reducible refine r_bm ?_)
  | ((with_reducible refine' r_tyL ?h1 ?_); (case h1 => walk_at "lk"))
  | ((with_reducible refine' r_ixL ?h1 ?h2 ?_); (case h1 => first | assumption | exact SqL.of (by walk_at "lk")); (case h2 => exact rfl))
  | ((with_reducible refine' r_ixT ?h1 ?h2 ?_); (case h1 => first | assumption | exact SqT.of (by walk_at "lk")); (case h2 => exact rfl))
  | (with_reducible refine r_gsub ?_)
  | ((with_reducible refine' r_setL ?h1 ?h2 ?_); (case h1 => walk_at "lk"); (case h2 => exact rfl))
  | (with_reducible refine r_un ?_)
  | (with_reducible refine r_neg ?_)
  | (with_reducible refine r_iteT ?_)
  | (with_reducible refine r_iteNT ?_)
  | (with_reducible refine r_iteNF ?_)
  | (with_reducible refine r_iteF ?_)
  | (with_reducible refine r_next ?_)
  | (with_reducible refine r_drop ?_)
  | (with_reducible refine r_cont ?_)
  | (with_reducible refine r_brk ?_))
local macro_rules | `(tactic| walk_at "ty") => `(tactic| first
  | assumption
  | exact .base (.int _)
  | exact .base (.str _)
  | exact .base (.bl _)
  | exact .base .non
  | exact .byt _
  | exact .base (.lst (by walk_at "lk"))
  | exact .base (.tup (by walk_at "lk")))
local macro_rules | `(tactic| walk_at "rd2") => `(tactic| first
  | walk_at "rd1"
  | ((with_reducible refine' r_isi true ?ht ?hk ?_); (case ht => walk_at "ty"); (case hk => first | assumption | decide +kernel))
  | ((with_reducible refine' r_isi false ?ht ?hk ?_); (case ht => walk_at "ty"); (case hk => first | assumption | decide +kernel))
  | ((with_reducible refine' r_isiT2 true true ?hT ?ht ?hk ?hk2 ?_); (case hT => walk_at "lk"); (case ht => walk_at "ty"); (case hk => decide +kernel); (case hk2 => decide +kernel))
  | ((with_reducible refine' r_isiT2 true false ?hT ?ht ?hk ?hk2 ?_); (case hT => walk_at "lk"); (case ht => walk_at "ty"); (case hk => decide +kernel); (case hk2 => decide +kernel))
  | ((with_reducible refine' r_isiT2 false true ?hT ?ht ?hk ?hk2 ?_); (case hT => walk_at "lk"); (case ht => walk_at "ty"); (case hk => decide +kernel); (case hk2 => decide +kernel))
  | ((with_reducible refine' r_isiT2 false false ?hT ?ht ?hk ?hk2 ?_); (case hT => walk_at "lk"); (case ht => walk_at "ty"); (case hk => decide +kernel); (case hk2 => decide +kernel))
  | (with_reducible refine r_iteNT ?_)
  | ((show (if (!true) = true then _ else _)); refine r_iteNT ?_)
  | (with_reducible refine r_r1 ?_)
  | (with_reducible refine r_maks ?_)
  | (with_reducible refine r_sfld ?_)
  | ((with_reducible refine' r_sfldE ?h1 ?h2 ?h3 ?h4 ?_); (case h1 => walk_at "lk"); (case h2 => assumption); (case h3 => assumption); (case h4 => exact (show _ + 1 ≤ 1000 from Nat.le_of_ble_eq_true rfl)))
  | (with_reducible refine r_fld ?_)
  | (with_reducible refine r_join ?_)
  | (with_reducible refine r_jcons ?_)
  | (with_reducible refine r_jnil ?_)
  | ((with_reducible refine r_rLenY ?hz ?_); (case hz => first | assumption | (refine Nat.le_trans ?_ (by decide : 100000 ≤ sizeLine); omega)))
  | (with_reducible refine r_par ?_)
  | (with_reducible refine r_pair ?_)
  | (with_reducible refine r_par3 ?_)
  | (with_reducible refine r_trip ?_)
  | ((with_reducible refine' r_gtup ?h1 ?h2 ?_); (case h1 => first | assumption | exact SqT.of (by walk_at "lk")); (case h2 => exact rfl))
  | (with_reducible refine r_gcons ?_)
  | (with_reducible refine r_gnil ?_)
  | ((with_reducible refine' r_slL ?h1 ?_); (case h1 => first | assumption | exact SqL.of (by walk_at "lk")); (intro p hp))
  | (with_reducible refine r_iTup ?_)
  | ((with_reducible refine' r_tupE ?h1 ?_); (case h1 => first | assumption | exact SqT.of (by walk_at "lk")))
  | (with_reducible refine r_m1 ?_)
  | (with_reducible refine r_isZ ?_)
  | (with_reducible refine r_sl ?_)
  | (with_reducible refine r_noPart ?_)
  | (with_reducible refine r_part ?_)
  | (with_reducible refine r_partE ?_)
  | ((with_reducible refine r_slS ?hz ?_); (case hz => first | assumption | (refine Nat.le_trans ?_ (by decide : 100000 ≤ sizeLine); omega)))
  | ((with_reducible refine' r_inT ?h1 ?h2 ?h3 ?_); (case h1 => first | assumption | (exact SqT.of (by walk_at "lk"))); (case h2 => exact rfl); (case h3 => exact rfl))
  | ((with_reducible refine' r_inL ?h1 ?h2 ?h3 ?_); (case h1 => first | assumption | (exact SqL.of (by walk_at "lk"))); (case h2 => exact rfl); (case h3 => exact rfl))
  | (with_reducible refine r_lc ?_)
  | (with_reducible refine r_for ?_)
  | (with_reducible refine r_iStr ?_)
  | (with_reducible refine r_strE ?_)
  | (with_reducible refine r_iList ?_)
  | ((with_reducible refine' r_listE ?h1 ?_); (case h1 => first | assumption | exact SqL.of (by walk_at "lk")))
  | (with_reducible refine r_iRng1 ?_)
  | ((with_reducible refine' r_rngE ?h0 ?h1 ?_); (case h0 => first | omega | (split <;> omega)); (case h1 => first | omega | (split <;> omega))))
local macro_rules | `(tactic| walk_at "rd") => `(tactic| (repeat walk_at "rd2"))
local macro_rules | `(tactic| walk_at "st") => `(tactic| (repeat (first
  | (with_reducible refine r_gname ?_)
  | (with_reducible refine r_next ?_)
  | (with_reducible refine r_seq ?_)
  | (with_reducible refine r_asg ?_)
  | (with_reducible refine r_ret ?_)
  | (with_reducible refine r_for ?_)
  | (with_reducible refine r_iRng1 ?_)
  | (with_reducible refine r_iList ?_)
  | (with_reducible refine r_cons ?_)
  | (with_reducible refine r_par ?_)
  | (with_reducible refine r_par3 ?_))))
theorem But.refl (a : Addr) (H : Hp) : But a H H := fun _ _ _ e => e
theorem But.trans {a : Addr} {H H1 H2 : Hp} (x : But a H H1) (y : But a H1 H2) : But a H H2 := fun b o n e => y b o n (x b o n e)
theorem But.new {a p : Addr} {H H' : Hp} {o : HO} (hp : H p = none) (y : But a (upd H p o) H') : But a H H' := fun b u n e => y b u n (upd_old hp e)
theorem Same.but {a : Addr} {H H' : Hp} (e : Same H H') : But a H H' := fun b o _ h => e b o h
theorem Src.same {H H' : Hp} {a : Addr} (e : Same H H') (h : Src H a) : Src H' a := by
  obtain ⟨l, m, c, h1, h2⟩ := h
  exact ⟨l, m, c, e _ _ h1, h2⟩
theorem Src.new {H : Hp} {a p : Addr} {o : HO} (hp : H p = none) (h : Src H a) : Src (upd H p o) a := h.same (same_new hp)
theorem Src.ne {H : Hp} {a p : Addr} (h : Src H a) (hp : H p = none) : p ≠ a := by
  obtain ⟨l, m, c, h1, h2⟩ := h
  exact (ne_of_none h1 hp).symm
theorem pick_at {xs : List V} {d : Int} (h0 : 0 ≤ d) (h1 : d < (xs.length : Int)) : ∃ v, v ∈ xs ∧ atI xs d = some v := by
  have hd : d.toNat < xs.length := by omega
  refine ⟨xs[d.toNat], List.getElem_mem hd, ?_⟩
  have e : d = (d.toNat : Int) := by omega
  have h := atI_nat (List.getElem?_eq_getElem hd)
  rw [← e] at h
  exact h
section
variable {K : PySem.W.Frag} {σ : L2.St} {H : Hp} {Q : VK}
/-- one of a written list, drawn -/
theorem r_pick {a : Addr} {i : Nat} {n : Int} {ta : TA} (P : V → Prop) (hi : σ[i]? = some (some (.ref a))) (h0 : 0 < n) (h1 : n < 1000000)
    (hta : ∀ Q' : List V → Hp → Prop, (∀ xs H1, (xs.length : Int) = n → (∀ v ∈ xs, P v) → Src H1 a → But a H H1 → Q' xs H1) → ta σ H Q') (k : ∀ v H', P v → Src H' a → But a H H' → Q v H') :
    tOp (rIxL K) (tLst ta) (tCall spDraw [] E0 (tCons (tVar i) (tCons (tC (.int n)) tNil))) σ H Q := by
  refine r_op (r_lst (hta _ fun xs H1 hl hp hs hb => ?_))
  refine ⟨Nat.le_trans (by omega : xs.length ≤ 1000000) (by decide), fun p hp0 => ?_⟩
  refine r_call (r_cons (r_var hi (r_cons (r_c (r_nil ?_)))))
  refine sp_draw (hs.new hp0) h0 (by omega) (fun d H' d0 d1 hs' hb' => ?_)
  obtain ⟨v, hv, e⟩ := pick_at (xs := xs) d0 (by omega)
  exact r_ixL (SqL.of (hb' p _ (hs.ne hp0) upd_same)) e (k v H' (hp v hv) hs' (hb.trans (hb'.new hp0)))
/-- a sign of a written text, drawn -/
theorem r_pickS {a : Addr} {i : Nat} {z : Str} {n : Int} (hi : σ[i]? = some (some (.ref a))) (hn : (z.length : Int) = n) (h0 : 0 < n) (h1 : n < 1000000) (hs : Src H a) (k : ∀ c H', c ∈ z.cps.toList → Src H' a → But a H H' → Q (.str ⟨#[c]⟩) H') :
    tOp rIxS (tC (.str z)) (tCall spDraw [] E0 (tCons (tVar i) (tCons (tC (.int n)) tNil))) σ H Q := by
  refine r_op (r_c (r_call (r_cons (r_var hi (r_cons (r_c (r_nil ?_)))))))
  refine sp_draw hs h0 (by omega) (fun d H' d0 d1 hs' hb' => ?_)
  have hz : z.cps.toList.length = z.length := by simp [Str.length]
  have hd : d.toNat < z.cps.toList.length := by omega
  have e : d = (d.toNat : Int) := by omega
  have h := atI_nat (List.getElem?_eq_getElem hd)
  rw [← e] at h
  exact r_ixS (Nat.le_trans (by omega : z.length ≤ 1000000) (by decide)) h (k _ H' (List.getElem_mem hd) hs' hb')
end
def shortS (m : Nat) (v : V) : Prop := ∃ z : Str, v = .str z ∧ z.length ≤ m
def shortB (m : Nat) : V → Bool
  | .str z => decide (z.length ≤ m)
  | _ => false
theorem short_all {m : Nat} {xs : List V} (h : xs.all (shortB m) = true) : ∀ v ∈ xs, shortS m v := fun v hv => by
  have h1 := List.all_eq_true.mp h v hv
  cases v with
  | str z => exact ⟨z, rfl, of_decide_eq_true h1⟩
  | _ => cases h1
def intIn (lo hi : Int) (v : V) : Prop := ∃ i : Int, v = .int i ∧ lo ≤ i ∧ i ≤ hi
def intB (lo hi : Int) : V → Bool
  | .int i => decide (lo ≤ i) && decide (i ≤ hi)
  | _ => false
theorem int_all {lo hi : Int} {xs : List V} (h : xs.all (intB lo hi) = true) : ∀ v ∈ xs, intIn lo hi v := fun v hv => by
  have h1 := List.all_eq_true.mp h v hv
  cases v with
  | int i =>
    have h2 : (decide (lo ≤ i) && decide (i ≤ hi)) = true := h1
    simp only [Bool.and_eq_true, decide_eq_true_eq] at h2
    exact ⟨i, rfl, h2.1, h2.2⟩
  | _ => cases h1
theorem len_add (x y : Str) : (x ++ y).length = x.length + y.length := by
  rw [← SX.S_tl x, ← SX.S_tl y, SX.S_cat, SX.S_len, SX.S_len, SX.S_len, List.length_append]
theorem pick_lst {H : Hp} {p : Addr} {xs : List V} {d n : Int} (hl : H p = some (.lst xs)) (hn : (xs.length : Int) = n) (h0 : 0 ≤ d) (h1 : d < n) : ∃ v, v ∈ xs ∧ atI xs d = some v := pick_at h0 (by omega)
/-! ### the signs of names -/
def charsB (z : Str) : Bool := z.cps.toList.all fun c => decide (c ∈ NC.cps.toList)
theorem charsB_add {x y : Str} (hx : charsB x = true) (hy : charsB y = true) : charsB (x ++ y) = true := by
  unfold charsB at *
  have e : (x ++ y).cps.toList = x.cps.toList ++ y.cps.toList := TL.tl_append x y
  rw [e, List.all_append, hx, hy]
  rfl
theorem charsB_rep {z : Str} (k : Int) (hz : charsB z = true) : charsB (repZ z k) = true := by
  unfold charsB at *
  rw [repZ_list, List.all_eq_true]
  intro c hc
  obtain ⟨l, hl, hcl⟩ := List.mem_flatten.mp hc
  rw [List.eq_of_mem_replicate hl] at hcl
  exact List.all_eq_true.mp hz c hcl
theorem charsB_one {c : Nat} {z : Str} (hz : charsB z = true) (hc : c ∈ z.cps.toList) : charsB ⟨#[c]⟩ = true := by
  unfold charsB at *
  have h := List.all_eq_true.mp hz c hc
  show ([c] : List Nat).all _ = true
  rw [List.all_cons, h]
  rfl
theorem name_of {z : Str} (h1 : 1 ≤ z.length) (h2 : z.length ≤ 250) (hc : charsB z = true) : nameB z = true := by
  unfold nameB
  unfold charsB at hc
  rw [decide_eq_true h1, decide_eq_true h2, hc]
  rfl
theorem of_name {z : Str} (h : nameB z = true) : 1 ≤ z.length ∧ z.length ≤ 250 ∧ charsB z = true := by
  unfold nameB at h
  simp only [Bool.and_eq_true, decide_eq_true_eq] at h
  exact ⟨h.1.1, h.1.2, h.2⟩
def nmS (m : Nat) (v : V) : Prop := ∃ z : Str, v = .str z ∧ 1 ≤ z.length ∧ z.length ≤ m ∧ charsB z = true
def nmB (m : Nat) : V → Bool
  | .str z => decide (1 ≤ z.length) && decide (z.length ≤ m) && charsB z
  | _ => false
theorem nm_all {m : Nat} {xs : List V} (h : xs.all (nmB m) = true) : ∀ v ∈ xs, nmS m v := fun v hv => by
  have h1 := List.all_eq_true.mp h v hv
  cases v with
  | str z =>
    have h2 : (decide (1 ≤ z.length) && decide (z.length ≤ m) && charsB z) = true := h1
    simp only [Bool.and_eq_true, decide_eq_true_eq] at h2
    exact ⟨z, rfl, h2.1.1, h2.1.2, h2.2⟩
  | _ => cases h1
section
variable {P : Program} {w : World} {K : PySem.W.Frag} {mg : Str → Option Value} {base : Heap}
def spRName : Sp := fun vs H Q _ => ∃ (a : Addr) (n : Int), vs = [.ref a, .int n] ∧ Src H a ∧ 0 ≤ n ∧ n ≤ 300 ∧ ∀ (z : Str) H', (1 ≤ z.length ∧ (z.length : Int) ≤ 20 + n ∧ charsB z = true) → Src H' a → But a H H' → Q (.str z) H'
theorem sp_rname {a : Addr} {n : Int} {H : Hp} {Q : VK} {E : XK} (h : Src H a) (h0 : 0 ≤ n) (h1 : n ≤ 300) (k : ∀ (z : Str) H', (1 ≤ z.length ∧ (z.length : Int) ≤ 20 + n ∧ charsB z = true) → Src H' a → But a H H' → Q (.str z) H') : spRName ([.ref a, .int n] ++ []) H Q E := ⟨a, n, rfl, h, h0, h1, k⟩
theorem ok_rname {f : Addr} {fd : FuncData} {k : Nat} (F : Fun K "_law_random_name" "_law_random_name" s__law_random_name f fd) (m1 : mg "range" = none) (c_draw : CalT P w K mg base 2 "_law_draw" spDraw) :
    FnOk P w K mg base CX0 (k + 3) f fd ["_law_source_here", "_law_many"] spRName := by
  refine F.ok sc__law_random_name (fun vs H Q E h => ?_) (fun cdv A outer s H vs Q E hr h => ?_)
  · obtain ⟨a, n, rfl, _⟩ := h
    rfl
  · obtain ⟨a, n, rfl, hs, hn0, hn1, q⟩ := h
    have hu := hu_of hr
    have nd := sc__law_random_name.nd
    have one : Str.length "/" = 1 := by decide +kernel
    have oneq : Str.length "q" = 1 := by decide +kernel
    have chs : charsB "/" = true := by decide +kernel
    have chq : charsB "q" = true := by decide +kernel
    refine ⟨_, (pss_cons (ps_set (i := 2) nd rfl (Or.inl rfl) (pe_ix (ix_listK K) (pe_lst (pa_cons pe_str (pa_cons pe_str (pa_cons pe_str (pa_cons pe_str (pa_cons pe_str (pa_cons pe_str pa_nil))))))) (pe_cc c_draw hr (by omega) (by rfl) (pa_cons (pv 0) (pa_cons pe_int pa_nil))) (fun _ _ => rfl)))
      (pss_cons (ps_for PassesOwn.never rfl (pi_range1 (by rfl) (by assumption) (pa_cons (pe_ix (ix_listK K) (pe_lst (pa_cons pe_int (pa_cons pe_int (pa_cons pe_int (pa_cons pe_int pa_nil))))) (pe_cc c_draw hr (by omega) (by rfl) (pa_cons (pv 0) (pa_cons pe_int pa_nil))) (fun _ _ => rfl)) pa_nil)) (pg_name (i := 3) nd rfl (Or.inl rfl))
        (pss_one (ps_set (i := 2) nd rfl (Or.inl rfl) (pe_op op_addZ (pe_op op_addZ (pv 2) pe_str) (pe_ix (ix_listK K) (pe_lst (pa_cons pe_str (pa_cons pe_str (pa_cons pe_str (pa_cons pe_str (pa_cons pe_str (pa_cons pe_str pa_nil))))))) (pe_cc c_draw hr (by omega) (by rfl) (pa_cons (pv 0) (pa_cons pe_int pa_nil))) (fun _ _ => rfl))))))
      (pss_one (ps_ret (pe_op op_addZ (pv 2) (pe_op op_mulS pe_str (pv 1))))))), ?_⟩
    walk_at "st"
    refine r_pick (nmS 4) rfl (by decide) (by decide) (fun Q' h => ?_) ?_
    · walk_at "rd"
      exact h _ _ rfl (nm_all (by decide +kernel)) hs (.refl _ _)
    · rintro v H1 ⟨z, rfl, hz1, hz, hzc⟩ hs1 hb1
      walk_at "st"
      refine r_pick (intIn 0 2) rfl (by decide) (by decide) (fun Q' h => ?_) ?_
      · walk_at "rd"
        exact h _ _ rfl (int_all (by decide +kernel)) hs1 (.refl _ _)
      · rintro v H2 ⟨j, rfl, hj0, hj1⟩ hs2 hb2
        walk_at "rd"
        refine for_it (walk_range (lo := 0) (n := j.toNat)) (fun i σ H' => ∃ (z : Str) (v : Option V), σ = [some (.ref a), some (.int n), some (.str z), v] ∧ Src H' a ∧ But a H H' ∧ 1 ≤ z.length ∧ z.length ≤ 4 + 5 * i ∧ charsB z = true) ?_ (fun _ _ _ _ _ => True.intro) ?_ ?_
        · exact ⟨_, _, rfl, hs2, hb1.trans hb2, hz1, hz, hzc⟩
        · rintro i x σ Hc H' hi ⟨y, v, rfl, hs3, hb3, hy1, hy, hyc⟩ ⟨rfl, rfl⟩
          walk_at "st"
          iterate 5 walk_at "rd2"
          refine r_pick (nmS 4) rfl (by decide) (by decide) (fun Q' h => ?_) ?_
          · walk_at "rd"
            exact h _ _ rfl (nm_all (by decide +kernel)) hs3 (.refl _ _)
          · rintro v H4 ⟨u, rfl, hu1, hu4, huc⟩ hs4 hb4
            have e1 := len_add y "/"
            have e2 := len_add (y ++ "/") u
            walk_at "rd"
            exact ⟨_, _, rfl, hs4, hb3.trans hb4, by omega, by omega, charsB_add (charsB_add hyc chs) huc⟩
        · rintro σ Hc ⟨y, v, rfl, hs3, hb3, hy1, hy, hyc⟩
          have e1 : (repZ "q" n).length = n.toNat := by rw [repZ_len, oneq, Nat.mul_one]
          have e2 := len_add y (repZ "q" n)
          walk_at "rd"
          exact q _ _ ⟨by omega, by omega, charsB_add hyc (charsB_rep _ chq)⟩ hs3 hb3
def spAName : Sp := fun vs H Q _ => ∃ (a : Addr), vs = [.ref a] ∧ Src H a ∧ ∀ (z : Str) H', nameB z = true → Src H' a → But a H H' → Q (.str z) H'
theorem sp_aname {a : Addr} {H : Hp} {Q : VK} {E : XK} (h : Src H a) (k : ∀ (z : Str) H', nameB z = true → Src H' a → But a H H' → Q (.str z) H') : spAName ([.ref a] ++ []) H Q E := ⟨a, rfl, h, k⟩
theorem ok_aname {f : Addr} {fd : FuncData} {k : Nat} (F : Fun K "_law_any_name" "_law_any_name" s__law_any_name f fd) (m1 : mg "len" = none) (c_draw : CalT P w K mg base 2 "_law_draw" spDraw) (c_rname : CalT P w K mg base 3 "_law_random_name" spRName) :
    FnOk P w K mg base CX0 (k + 4) f fd ["_law_source_here"] spAName := by
  refine F.ok sc__law_any_name (fun vs H Q E h => ?_) (fun cdv A outer s H vs Q E hr h => ?_)
  · obtain ⟨a, rfl, _⟩ := h
    rfl
  · obtain ⟨a, rfl, hs, q⟩ := h
    have hu := hu_of hr
    have nd := sc__law_any_name.nd
    refine ⟨_, (pss_cons (ps_set (i := 1) nd rfl (Or.inl rfl) (pe_cc c_draw hr (by omega) (by rfl) (pa_cons (pv 0) (pa_cons pe_int pa_nil))))
      (pss_cons (ps_if (pt_cmpR op_lt (pv 1) pe_int (nomark _))
        (pss_one (ps_ret (pe_cc c_rname hr (by omega) (by rfl) (pa_cons (pv 0) (pa_cons pe_int pa_nil)))))
        pss_nil)
      (pss_cons (ps_if (pt_cmpR op_lt (pv 1) pe_int (nomark _))
        (pss_cons (ps_set (i := 2) nd rfl (Or.inl rfl) (pe_ix (ix_listK K) (pe_lst (pa_cons pe_int (pa_cons pe_int (pa_cons pe_int (pa_cons pe_int (pa_cons pe_int (pa_cons pe_int (pa_cons (pe_op op_add pe_int (pe_cc c_draw hr (by omega) (by rfl) (pa_cons (pv 0) (pa_cons pe_int pa_nil)))) pa_nil)))))))) (pe_cc c_draw hr (by omega) (by rfl) (pa_cons (pv 0) (pa_cons pe_int pa_nil))) (fun _ _ => rfl)))
      (pss_cons (ps_set (i := 3) nd rfl (Or.inl rfl) (pe_cc c_rname hr (by omega) (by rfl) (pa_cons (pv 0) (pa_cons pe_int pa_nil))))
      (pss_one (ps_ret (pe_op op_addZ (pv 3) (pe_op op_mulS (pe_ix ix_str pe_str (pe_cc c_draw hr (by omega) (by rfl) (pa_cons (pv 0) (pa_cons pe_int pa_nil))) (fun _ _ => rfl)) (pe_op op_sub (pv 2) (pe_callB call_rLenZ (by rfl) (by assumption) (by decide +kernel) (pa_cons (pv 3) pa_nil)))))))))
        pss_nil)
      (pss_one (ps_ret (pe_ix (ix_listK K) (pe_lst (pa_cons pe_str (pa_cons pe_str (pa_cons pe_str (pa_cons pe_str (pa_cons pe_str (pa_cons pe_str (pa_cons pe_str (pa_cons pe_str pa_nil))))))))) (pe_cc c_draw hr (by omega) (by rfl) (pa_cons (pv 0) (pa_cons pe_int pa_nil))) (fun _ _ => rfl))))))), ?_⟩
    walk_at "rd"
    refine sp_draw hs (by decide) (by decide) (fun way H1 w0 w1 hs1 hb1 => ?_)
    walk_at "rd"
    refine r_iteD (fun hw => ?_) (fun hw => ?_)
    · walk_at "rd"
      refine sp_rname hs1 (by decide) (by decide) (fun z H2 hz hs2 hb2 => ?_)
      exact q z H2 (name_of hz.1 (by omega) hz.2.2) hs2 (hb1.trans hb2)
    · walk_at "rd"
      refine r_iteD (fun hw2 => ?_) (fun hw2 => ?_)
      · walk_at "st"
        refine r_pick (intIn 99 250) rfl (by decide) (by decide) (fun Q' h => ?_) ?_
        · walk_at "rd"
          refine sp_draw hs1 (by decide) (by decide) (fun d H2 d0 d1 hs2 hb2 => ?_)
          walk_at "rd"
          refine h _ _ rfl ?_ hs2 hb2
          intro v hv
          simp only [List.mem_cons, List.not_mem_nil, or_false] at hv
          rcases hv with rfl | rfl | rfl | rfl | rfl | rfl | rfl
          all_goals exact ⟨_, rfl, by omega, by omega⟩
        · rintro v H2 ⟨size, rfl, z0, z1⟩ hs2 hb2
          walk_at "rd"
          refine sp_rname hs2 (by decide) (by decide) (fun z H3 hz hs3 hb3 => ?_)
          walk_at "st"
          iterate 3 walk_at "rd2"
          refine r_pickS rfl (by decide +kernel) (by decide) (by decide) hs3 (fun c H4 hc hs4 hb4 => ?_)
          have hcc : charsB ⟨#[c]⟩ = true := charsB_one (by decide +kernel) hc
          have onec : Str.length ⟨#[c]⟩ = 1 := rfl
          have e1 : (repZ ⟨#[c]⟩ (size - z.length)).length = (size - z.length).toNat := by rw [repZ_len, onec, Nat.mul_one]
          have e2 := len_add z (repZ ⟨#[c]⟩ (size - z.length))
          walk_at "rd"
          exact q _ H4 (name_of (by omega) (by omega) (charsB_add hz.2.2 (charsB_rep _ hcc))) hs4 (((hb1.trans hb2).trans hb3).trans hb4)
      · walk_at "st"
        refine r_pick (nmS 6) rfl (by decide) (by decide) (fun Q' h => ?_) ?_
        · walk_at "rd"
          exact h _ _ rfl (nm_all (by decide +kernel)) hs1 (.refl _ _)
        · rintro v H2 ⟨z, rfl, hz1, hz, hzc⟩ hs2 hb2
          exact q z H2 (name_of hz1 (by omega) hzc) hs2 (hb1.trans hb2)
end
end Th
namespace Th
open PySem PySem.Spec PyProof.Rows L2
local macro_rules | `(tactic| walk_at "lk") => `(tactic| first
  | assumption
  | exact upd_same
  | (refine upd_old (by assumption) ?_; walk_at "lk")
  | (refine upd_diff (by assumption) ?_; walk_at "lk")
  | (refine upd_diff (Ne.symm (by assumption)) ?_; walk_at "lk"))
local macro_rules | `(tactic| walk_at "cnd") => `(tactic| first
  | omega
  | (refine ⟨by omega, by omega⟩)
  | (refine ⟨by omega, by omega, by omega⟩)
  | (refine .inl ⟨by omega, by omega⟩)
  | (refine .inr ⟨by omega, by omega⟩)
  | (exact (show CPow _ _ from ⟨by decide, by decide, by omega⟩))
  | decide +kernel
  | (unfold CMulW; decide +kernel)
  | (exact wide_div (b := 64) (by omega) (by omega) (by decide) (by decide)))
local macro_rules | `(tactic| walk_at "rd1") => `(tactic| first
  | (with_reducible refine r_seq ?_)
  | (with_reducible refine r_asg ?_)
  | (with_reducible refine r_ret ?_)
  | (with_reducible refine r_if ?_)
  | (with_reducible refine r_gname ?_)
  | ((with_reducible refine' r_var ?hv ?_); (case hv => exact rfl))
  | (with_reducible refine r_c ?_)
  | (with_reducible refine r_op ?_)
  | (with_reducible refine r_I0 ?_)
  | ((with_reducible refine r_I ?hc ?_); (case hc => walk_at "cnd"))
  | (with_reducible refine r_test ?_)
  | (with_reducible refine r_tB ?_)
  | (with_reducible refine r_bl ?_)
  | (with_reducible refine r_not ?_)
  | (with_reducible refine r_and ?_)
  | (with_reducible refine r_or ?_)
  | (with_reducible refine r_ifE ?_)
  | (with_reducible refine r_notV ?_)
  | (with_reducible refine r_andV ?_)
  | (with_reducible refine r_orV ?_)
  | (with_reducible refine r_chain ?_)
  | (with_reducible refine r_cb ?_)
  | (with_reducible refine r_call ?_)
  | (with_reducible refine r_callN ?_)
  | (with_reducible refine r_nil ?_)
  | (with_reducible refine r_cons ?_)
  | ((with_reducible refine r_lst ?_))
  | ((with_reducible refine r_tup ?_))
  | ((with_reducible refine r_new ?_ ?_); (exact Nat.le_of_ble_eq_true rfl); (intro p hp))
  | (with_reducible refine r_rInt1 ?_)
  | (with_reducible refine r_rIntB ?_)
  | (with_reducible refine r_rAbs ?_)
  | (with_reducible refine r_rMin2 ?_)
  | (with_reducible refine r_rMax2 ?_)
  | ((with_reducible refine r_rLenZ ?hz ?_); (case hz => first | assumption | exact Nat.le_of_ble_eq_true rfl | (refine Nat.le_trans ?_ (by decide : 100000 ≤ sizeLine); omega)))
  | ((with_reducible refine r_addZ ?hz ?_); (case hz => (refine Nat.le_trans ?_ (by decide : 100000 ≤ sizeLine); first | omega | (simp only [Str.length] at *; simp; omega))))
  | ((with_reducible refine r_mulZ ?hz ?h0 ?h1 ?_); (case hz => first | omega | exact Nat.le_of_ble_eq_true rfl); (case h0 => omega); (case h1 => omega))
  | ((with_reducible refine' r_rLenQ ?h1 ?_); (case h1 => first | (exact .inl (by assumption)) | (exact .inr (by assumption)) | (exact .inl (SqL.of (by walk_at "lk"))) | (exact .inr (SqT.of (by walk_at "lk")))))
  | ((with_reducible refine r_eq ?hs ?_); (case hs => exact rfl))
  | ((with_reducible refine r_ne ?hs ?_); (case hs => exact rfl))
  | (with_reducible refine r_inC ?_)
  | ((with_reducible refine' r_cat ?h1 ?h2 ?h3 ?_); (case h1 => walk_at "lk"); (case h2 => walk_at "lk"); (case h3 => exact Nat.le_of_ble_eq_true rfl); (intro p hp))
  | ((with_reducible refine' r_rep ?h1 ?h2 ?h3 ?h4 ?_); (case h1 => walk_at "lk"); (case h2 => omega); (case h3 => omega); (case h4 => exact Nat.le_of_ble_eq_true rfl); (intro p hp))
  | ((with_reducible refine' r_append ?h1 ?h2 ?_); (case h1 => walk_at "lk"); (case h2 => first | exact (show _ + 1 ≤ sizeLine from Nat.le_of_ble_eq_true rfl) | exact Nat.lt_of_le_of_lt (by omega : _ ≤ 100000) (by decide)))
  | (with_reducible refine r_bm ?_)
  | ((with_reducible refine' r_tyL ?h1 ?_); (case h1 => walk_at "lk"))
  | ((with_reducible refine' r_ixL ?h1 ?h2 ?_); (case h1 => first | assumption | exact SqL.of (by walk_at "lk")); (case h2 => exact rfl))
  | ((with_reducible refine' r_ixT ?h1 ?h2 ?_); (case h1 => first | assumption | exact SqT.of (by walk_at "lk")); (case h2 => exact rfl))
  | (with_reducible refine r_gsub ?_)
  | ((with_reducible refine' r_setL ?h1 ?h2 ?_); (case h1 => walk_at "lk"); (case h2 => exact rfl))
  | (with_reducible refine r_un ?_)
  | (with_reducible refine r_neg ?_)
  | (with_reducible refine r_iteT ?_)
  | (with_reducible refine r_iteNT ?_)
  | (with_reducible refine r_iteNF ?_)
  | (with_reducible refine r_iteF ?_)
  | (with_reducible refine r_next ?_)
  | (with_reducible refine r_drop ?_)
  | (with_reducible refine r_cont ?_)
  | (with_reducible refine r_brk ?_))
local macro_rules | `(tactic| walk_at "ty") => `(tactic| first
  | assumption
  | exact .base (.int _)
  | exact .base (.str _)
  | exact .base (.bl _)
  | exact .base .non
  | exact .byt _
  | exact .base (.lst (by walk_at "lk"))
  | exact .base (.tup (by walk_at "lk")))
local macro_rules | `(tactic| walk_at "rd2") => `(tactic| first
  | walk_at "rd1"
  | ((with_reducible refine' r_isi true ?ht ?hk ?_); (case ht => walk_at "ty"); (case hk => first | assumption | decide +kernel))
  | ((with_reducible refine' r_isi false ?ht ?hk ?_); (case ht => walk_at "ty"); (case hk => first | assumption | decide +kernel))
  | ((with_reducible refine' r_isiT2 true true ?hT ?ht ?hk ?hk2 ?_); (case hT => walk_at "lk"); (case ht => walk_at "ty"); (case hk => decide +kernel); (case hk2 => decide +kernel))
  | ((with_reducible refine' r_isiT2 true false ?hT ?ht ?hk ?hk2 ?_); (case hT => walk_at "lk"); (case ht => walk_at "ty"); (case hk => decide +kernel); (case hk2 => decide +kernel))
  | ((with_reducible refine' r_isiT2 false true ?hT ?ht ?hk ?hk2 ?_); (case hT => walk_at "lk"); (case ht => walk_at "ty"); (case hk => decide +kernel); (case hk2 => decide +kernel))
  | ((with_reducible refine' r_isiT2 false false ?hT ?ht ?hk ?hk2 ?_); (case hT => walk_at "lk"); (case ht => walk_at "ty"); (case hk => decide +kernel); (case hk2 => decide +kernel))
  | (with_reducible refine r_iteNT ?_)
  | ((show (if (!true) = true then _ else _)); refine r_iteNT ?_)
  | (with_reducible refine r_r1 ?_)
  | (with_reducible refine r_maks ?_)
  | (with_reducible refine r_sfld ?_)
  | ((with_reducible refine' r_sfldE ?h1 ?h2 ?h3 ?h4 ?_); (case h1 => walk_at "lk"); (case h2 => assumption); (case h3 => assumption); (case h4 => exact (show _ + 1 ≤ 1000 from Nat.le_of_ble_eq_true rfl)))
  | (with_reducible refine r_fld ?_)
  | (with_reducible refine r_join ?_)
  | (with_reducible refine r_jcons ?_)
  | (with_reducible refine r_jnil ?_)
  | ((with_reducible refine r_rLenY ?hz ?_); (case hz => first | assumption | (refine Nat.le_trans ?_ (by decide : 100000 ≤ sizeLine); omega)))
  | (with_reducible refine r_par ?_)
  | (with_reducible refine r_pair ?_)
  | (with_reducible refine r_par3 ?_)
  | (with_reducible refine r_trip ?_)
  | ((with_reducible refine' r_gtup ?h1 ?h2 ?_); (case h1 => first | assumption | exact SqT.of (by walk_at "lk")); (case h2 => exact rfl))
  | (with_reducible refine r_gcons ?_)
  | (with_reducible refine r_gnil ?_)
  | ((with_reducible refine' r_slL ?h1 ?_); (case h1 => first | assumption | exact SqL.of (by walk_at "lk")); (intro p hp))
  | (with_reducible refine r_iTup ?_)
  | ((with_reducible refine' r_tupE ?h1 ?_); (case h1 => first | assumption | exact SqT.of (by walk_at "lk")))
  | (with_reducible refine r_m1 ?_)
  | (with_reducible refine r_isZ ?_)
  | (with_reducible refine r_sl ?_)
  | (with_reducible refine r_noPart ?_)
  | (with_reducible refine r_part ?_)
  | (with_reducible refine r_partE ?_)
  | ((with_reducible refine r_slS ?hz ?_); (case hz => first | assumption | (refine Nat.le_trans ?_ (by decide : 100000 ≤ sizeLine); omega)))
  | ((with_reducible refine' r_inT ?h1 ?h2 ?h3 ?_); (case h1 => first | assumption | (exact SqT.of (by walk_at "lk"))); (case h2 => exact rfl); (case h3 => exact rfl))
  | ((with_reducible refine' r_inL ?h1 ?h2 ?h3 ?_); (case h1 => first | assumption | (exact SqL.of (by walk_at "lk"))); (case h2 => exact rfl); (case h3 => exact rfl))
  | (with_reducible refine r_lc ?_)
  | (with_reducible refine r_for ?_)
  | (with_reducible refine r_iStr ?_)
  | (with_reducible refine r_strE ?_)
  | (with_reducible refine r_iList ?_)
  | ((with_reducible refine' r_listE ?h1 ?_); (case h1 => first | assumption | exact SqL.of (by walk_at "lk")))
  | (with_reducible refine r_iRng1 ?_)
  | ((with_reducible refine' r_rngE ?h0 ?h1 ?_); (case h0 => first | omega | (split <;> omega)); (case h1 => first | omega | (split <;> omega))))
local macro_rules | `(tactic| walk_at "rd") => `(tactic| (repeat walk_at "rd2"))
local macro_rules | `(tactic| walk_at "st") => `(tactic| (repeat (first
  | (with_reducible refine r_gname ?_)
  | (with_reducible refine r_next ?_)
  | (with_reducible refine r_seq ?_)
  | (with_reducible refine r_asg ?_)
  | (with_reducible refine r_ret ?_)
  | (with_reducible refine r_for ?_)
  | (with_reducible refine r_iRng1 ?_)
  | (with_reducible refine r_iList ?_)
  | (with_reducible refine r_cons ?_)
  | (with_reducible refine r_par ?_)
  | (with_reducible refine r_par3 ?_))))
/-! ### content -/
def rBytesN : List V → Hp → VK → Prop := fun xs H Q => ∃ n : Int, xs = [.int n] ∧ 0 ≤ n ∧ n ≤ 16777216 ∧ Q (.byt (Array.replicate n.toNat 0)) H
theorem call_bytesN {X : Cx} : CallR X (.type "bytes") rBytesN := by
  intro pins s σ H xs us Q I r h
  obtain ⟨n, rfl, h0, h1, q⟩ := h
  obtain ⟨u, rfl, t, rfl⟩ : ∃ u, us = [u] ∧ ∃ t, u = Value.int n t := by
    obtain ⟨u, rfl, ru⟩ := vals1 r
    exact ⟨u, rfl, ru⟩
  exact call_bytes_size h0 h1 fun t' k => ⟨.byt _, H, I.tok k, ⟨_, rfl⟩, q⟩
theorem r_bytesN {n : Int} {H : Hp} {Q : VK} (h0 : 0 ≤ n) (h1 : n ≤ 16777216) (h : Q (.byt (Array.replicate n.toNat 0)) H) : rBytesN [.int n] H Q := ⟨n, rfl, h0, h1, h⟩
/-- a method of bytes -/
def tBMB (r : V → List V → Hp → VK → Prop) (to : TE) (t : TA) : TE := fun σ H Q => to σ H fun x H1 => ∃ y, x = .byt y ∧ t σ H1 fun xs H2 => r x xs H2 Q
theorem pe_bmB {X : Cx} {o e : Expr} {es : List Expr} {to : TE} {t : TA} {name : Str} {apos cpos : Pos} {id : String} {r : V → List V → Hp → VK → Prop} (pa : PlainAttrs "bytes") (slot : Slot "bytes" name id) (hty : typeOf (.builtin id) = pure (.type "method_descriptor")) (hm : MtR X id r) (ho : PE X o to) (ha : PA X (e :: es) t)
    (hbase : attributeBase o name X.env (eval o X.env) = eval o X.env := by rfl)
    (hfew : ((backTo cpos (starEach (e :: es) X.env)).all (fun x => !x.1) && (backToKw cpos (keywordEach [] X.env)).all (fun x => x.1.isSome)
      && decide ((e :: es).length + ([] : List Keyword).length + (if ([] : List Keyword).isEmpty then 0 else 1) < 30)) = true := by rfl)
    (hline : (apos.endLine == cpos.line) = true := by rfl) (hs : starEach (e :: es) X.env = (false, eval e X.env) :: starEach es X.env := by rfl) (hplain : (backTo cpos (starEach es X.env)).any (·.1) = false := by rfl) :
    PE X (.Call (.Attribute o name apos) (e :: es) [] cpos) (tBMB r to t) := by
  refine ⟨fun pins s σ H Q I h => ?_⟩
  refine wpAny_Call_method_late hbase hfew hline rfl (thn (ho.run pins s σ H _ I h) fun v s1 ⟨x, H1, I1, r1, y, ex, q1⟩ => ?_)
  subst ex
  obtain ⟨tk, rfl⟩ := (show ∃ tk, v = Value.bytes y tk from r1)
  refine ⟨"bytes", id, pa, slot, hty, PySem.W.typeIs_bytes s1 y tk, fun a e => (by cases e), ?_⟩
  have hA := ha.run cpos pins s1 σ H1 _ I1 q1
  rw [hs] at hA ⊢
  refine Calls.callWith_builtin (by show (false || (backTo cpos (starEach es X.env)).any (·.1)) = false; rw [hplain] <;> rfl) (Calls.evalArgs_plain ?_)
  exact thn hA fun us s2 ⟨vs, H2, I2, r2, q2⟩ => hm pins s2 σ H2 (.byt y) vs _ us Q I2 r1 r2 q2
theorem r_bmB {σ : L2.St} {H : Hp} {Q : VK} {r : V → List V → Hp → VK → Prop} {to : TE} {t : TA} (h : to σ H fun x H1 => ∃ y, x = .byt y ∧ t σ H1 fun xs H2 => r x xs H2 Q) : tBMB r to t σ H Q := h

/-! ### the rules of the bytes, by name -/
def rEnc : V → List V → Hp → VK → Prop := fun x xs H Q => ∃ a b, x = .str a ∧ xs = [.str b] ∧ (PySem.W.KSb.Asc a ∧ a.length ≤ 16777216 ∧ b = PySem.Str.ofString "ascii") ∧ Q (.byt (Bt.byOf a.cps.toList)) H
theorem mt_encN {X : Cx} : MtR X "str.encode" rEnc := Bt.mt_enc
theorem r_enc {z : Str} {H : Hp} {Q : VK} (ha : PySem.W.KSb.Asc z) (hz : z.length ≤ 100000) (h : Q (.byt (Bt.byOf z.cps.toList)) H) : rEnc (.str z) [.str "ascii"] H Q := ⟨z, _, rfl, rfl, ⟨ha, by omega, rfl⟩, h⟩
def rZf : V → List V → Hp → VK → Prop := fun x xs H Q => ∃ (a : Str) (i : Int), x = .str a ∧ xs = [.int i] ∧ PadOk i = true ∧ Q (.str (Txt.zfill a i)) H
theorem mt_zfN {X : Cx} : MtR X "str.zfill" rZf := mt_zfill
theorem r_zf {z : Str} {i : Int} {H : Hp} {Q : VK} (hp : PadOk i = true) (h : Q (.str (Txt.zfill z i)) H) : rZf (.str z) [.int i] H Q := ⟨z, i, rfl, rfl, hp, h⟩
def rAddY : R2 := fun x y H Q => ∃ i j, x = .byt i ∧ y = .byt j ∧ i.size + j.size ≤ 16777216 ∧ Q (.byt (i ++ j)) H
theorem op_addY {X : Cx} : OpR X (binaryOp .Add) rAddY := op_add_byt
theorem r_addY {i j : Array UInt8} {H : Hp} {Q : VK} (hz : i.size + j.size ≤ 100000) (h : Q (.byt (i ++ j)) H) : rAddY (.byt i) (.byt j) H Q := ⟨i, j, rfl, rfl, by omega, h⟩
theorem r_fmtO {g : Nat → List Nat} {te : TE} {σ : L2.St} {H : Hp} {Q : VK} (h : te σ H fun x H1 => ∃ n : Nat, x = .int n ∧ n < 8 ^ 30 ∧ Q (.str ⟨(g n).toArray⟩) H1) : Bt.tFmtO g te σ H Q := h
theorem r_fmtE {g : Nat → List Nat} {n : Nat} {H : Hp} {Q : VK} (hn : n < 8 ^ 30) (h : Q (.str ⟨(g n).toArray⟩) H) : ∃ m : Nat, V.int (n : Int) = .int m ∧ m < 8 ^ 30 ∧ Q (.str ⟨(g m).toArray⟩) H := ⟨n, rfl, hn, h⟩
theorem r_tyS {K : PySem.W.Frag} {z : Str} {H : Hp} {P : Prop} (h : P) : tyV K "str" (.str z) H ∧ P := ⟨rfl, h⟩
open Bt in
theorem byOf_app (a b : List Nat) : byOf a ++ byOf b = byOf (a ++ b) := by
  apply Array.toList_inj.mp
  simp [byOf]
open Bt in
theorem byOf_zero (n : Nat) : Array.replicate n (0 : UInt8) = byOf (List.replicate n 0) := by
  apply Array.toList_inj.mp
  simp [byOf]
open Bt in
theorem byOf_size (a : List Nat) : (byOf a).size = a.length := by simp [byOf]
theorem cut_to {z : Str} {n : Nat} : cutS z none (some (n : Int)) = ⟨(z.cps.toList.take n).toArray⟩ := by
  rw [C8.cutS_slice]
  have := SX.slice_to (a := z.cps.toList) (i := (n : Int)) (by omega)
  rw [SX.S_tl] at this
  rw [this]
  rfl
/-- the text in a field of 100 bytes -/
def fldT (z : Str) : List Nat := z.cps.toList.take 100 ++ List.replicate (100 - (z.cps.toList.take 100).length) 0
def fldO (n k : Nat) : List Nat := Bt.octP n k ++ [0]
theorem asc_take {z : Str} (h : PySem.W.KSb.Asc z) (n : Nat) : PySem.W.KSb.Asc ⟨(z.cps.toList.take n).toArray⟩ := fun c hc => h c (List.mem_of_mem_take (by simpa using hc))
section
variable {P : Program} {w : World} {K : PySem.W.Frag} {mg : Str → Option Value} {base : Heap}
def spTField : Sp := fun vs H Q _ => ∃ z : Str, vs = [.str z] ∧ PySem.W.KSb.Asc z ∧ z.length ≤ 1000 ∧ Q (.byt (Bt.byOf (fldT z))) H
theorem sp_tfield {z : Str} {H : Hp} {Q : VK} {E : XK} (ha : PySem.W.KSb.Asc z) (hz : z.length ≤ 1000) (k : Q (.byt (Bt.byOf (fldT z))) H) : spTField ([.str z] ++ []) H Q E := ⟨z, rfl, ha, hz, k⟩
theorem ok_tfield {f : Addr} {fd : FuncData} {k : Nat} {t1 : Tok} (F : Fun K "text_field" "text_field" s_text_field f fd) (m1 : mg "len" = none) (m2 : mg "bytes" = none) (m_TS : mg "TEXT_SIZE" = some (.int 100 t1)) : FnOk P w K mg base CX0 (k + 2) f fd ["text"] spTField := by
  refine F.ok sc_text_field (fun vs H Q E h => ?_) (fun cdv A outer s H vs Q E hr h => ?_)
  · obtain ⟨z, rfl, _⟩ := h
    rfl
  · obtain ⟨z, rfl, ha, hz, q⟩ := h
    have hu := hu_of hr
    have nd := sc_text_field.nd
    refine ⟨_, (pss_cons (ps_set (i := 1) nd rfl (Or.inl rfl) (pe_bm PySem.F.plainAttrs_str PySem.F.slot_str_encode PySem.F.type_str_encode mt_encN (pe_slice sl_str (pv 0) po_none (po_some (pe_glob (v := .int 100) (by rfl) m_TS (by first | exact rfl | exact ⟨_, rfl⟩)))) (pa_cons pe_str pa_nil)))
      (pss_one (ps_ret (pe_op op_addY (pv 1) (pe_callTy call_bytesN (by rfl) (by assumption) (by decide +kernel) (pa_cons (pe_op op_sub (pe_glob (v := .int 100) (by rfl) m_TS (by first | exact rfl | exact ⟨_, rfl⟩)) (pe_callB call_rLenY (by rfl) (by assumption) (by decide +kernel) (pa_cons (pv 1) pa_nil))) pa_nil)))))), ?_⟩
    have hc : cutS z none (some (100 : Int)) = ⟨(z.cps.toList.take 100).toArray⟩ := cut_to (n := 100)
    have hl : (z.cps.toList.take 100).length ≤ 100 := List.length_take_le ..
    walk_at "rd"
    refine ⟨rfl, ?_⟩
    rw [hc]
    walk_at "rd"
    refine r_enc (asc_take ha 100) (by simp [PySem.Str.length]; omega) ?_
    walk_at "rd"
    rw [show (⟨(z.cps.toList.take 100).toArray⟩ : Str).cps.toList = z.cps.toList.take 100 from by simp]
    refine r_rLenY (by rw [byOf_size]; exact Nat.le_trans hl (by decide)) ?_
    rw [byOf_size]
    walk_at "rd"
    refine r_bytesN (by omega) (by omega) ?_
    rw [show ((100 : Int) - ((z.cps.toList.take 100).length : Int)).toNat = 100 - (z.cps.toList.take 100).length from by omega, byOf_zero]
    refine r_addY (by rw [byOf_size, byOf_size, List.length_replicate]; omega) ?_
    rw [byOf_app]
    exact q
def spOField : Sp := fun vs H Q _ => ∃ n k : Nat, vs = [.int (n : Int), .int (k : Int)] ∧ 2 ≤ k ∧ k ≤ 20 ∧ n < 8 ^ (k - 1) ∧ Q (.byt (Bt.byOf (fldO n (k - 1)))) H
theorem sp_ofield {n k : Nat} {H : Hp} {Q : VK} {E : XK} (h1 : 2 ≤ k) (h2 : k ≤ 20) (h3 : n < 8 ^ (k - 1)) (q : Q (.byt (Bt.byOf (fldO n (k - 1)))) H) : spOField ([.int (n : Int), .int (k : Int)] ++ []) H Q E := ⟨n, k, rfl, h1, h2, h3, q⟩
theorem pow_le8 {n k : Nat} (h : n < 8 ^ (k - 1)) (hk : k ≤ 20) : n < 8 ^ 30 := Nat.lt_of_lt_of_le h (Nat.pow_le_pow_right (by decide) (by omega))

theorem padok {k : Nat} (h : k ≤ 100) : PadOk (k : Int) = true := by
  unfold PadOk
  have h1 : PySem.fitsSsize (k : Int) = true := by
    unfold PySem.fitsSsize
    simp only [Bool.not_eq_true', Bool.or_eq_false_iff, decide_eq_false_iff_not]
    omega
  have h2 : PySem.Builtin.Str.tooLong (k : Int).toNat = false := by
    unfold PySem.Builtin.Str.tooLong
    rw [decide_eq_false_iff_not, sizeLine_eq]
    omega
  rw [h1, h2]
  rfl
theorem ok_ofield {f : Addr} {fd : FuncData} {k : Nat} (F : Fun K "octal_field" "octal_field" s_octal_field f fd) : FnOk P w K mg base CX0 (k + 2) f fd ["number", "size"] spOField := by
  refine F.ok sc_octal_field (fun vs H Q E h => ?_) (fun cdv A outer s H vs Q E hr h => ?_)
  · obtain ⟨n, k, rfl, _⟩ := h
    rfl
  · obtain ⟨n, k, rfl, h1, h2, h3, q⟩ := h
    have hu := hu_of hr
    have nd := sc_octal_field.nd
    have h30 := pow_le8 h3 h2
    refine ⟨_, (pss_one (ps_ret (pe_op op_addY (pe_bm PySem.F.plainAttrs_str PySem.F.slot_str_encode PySem.F.type_str_encode mt_encN (pe_bm PySem.F.plainAttrs_str PySem.F.slot_str_zfill PySem.F.type_str_zfill mt_zfN (pe_joined1 (Bt.pe_o (pv 0) (pe_joined1 pe_str))) (pa_cons (pe_op op_sub (pv 1) pe_int) pa_nil)) (pa_cons pe_str pa_nil)) pe_byt))), ?_⟩
    have hk : ((k : Int) - 1) = ((k - 1 : Nat) : Int) := by omega
    have hlen : (Bt.octP n (k - 1)).length = k - 1 := Bt.octP_length (by omega) h3
    walk_at "rd"
    refine r_fmtO ?_
    walk_at "rd"
    refine ⟨n, rfl, h30, ?_⟩
    refine ⟨rfl, ?_⟩
    walk_at "rd"
    rw [hk]
    refine r_zf (padok (by omega)) ?_
    refine ⟨rfl, ?_⟩
    rw [Bt.zfill_oct]
    walk_at "rd"
    refine r_enc (Bt.asc_oct n (k - 1)) (by simp [PySem.Str.length]; omega) ?_
    rw [show (⟨(Bt.octP n (k - 1)).toArray⟩ : Str).cps.toList = Bt.octP n (k - 1) from by simp]
    rw [show (#[0] : Array UInt8) = Bt.byOf [0] from rfl]
    refine r_addY (by rw [byOf_size, byOf_size, hlen]; simp; omega) ?_
    rw [byOf_app]
    exact q
end
end Th
namespace Th
open PySem PySem.Spec PyProof.Rows L2
local macro_rules | `(tactic| walk_at "lk") => `(tactic| first
  | assumption
  | exact upd_same
  | (refine upd_old (by assumption) ?_; walk_at "lk")
  | (refine upd_diff (by assumption) ?_; walk_at "lk")
  | (refine upd_diff (Ne.symm (by assumption)) ?_; walk_at "lk"))
local macro_rules | `(tactic| walk_at "cnd") => `(tactic| first
  | omega
  | (refine ⟨by omega, by omega⟩)
  | (refine ⟨by omega, by omega, by omega⟩)
  | (refine .inl ⟨by omega, by omega⟩)
  | (refine .inr ⟨by omega, by omega⟩)
  | (exact (show CPow _ _ from ⟨by decide, by decide, by omega⟩))
  | decide +kernel
  | (unfold CMulW; decide +kernel)
  | (exact wide_div (b := 64) (by omega) (by omega) (by decide) (by decide)))
local macro_rules | `(tactic| walk_at "rd1") => `(tactic| first
  | (with_reducible refine r_seq ?_)
  | (with_reducible refine r_asg ?_)
  | (with_reducible refine r_ret ?_)
  | (with_reducible refine r_if ?_)
  | (with_reducible refine r_gname ?_)
  | ((with_reducible refine' r_var ?hv ?_); (case hv => exact rfl))
  | (with_reducible refine r_c ?_)
  | (with_reducible refine r_op ?_)
  | (with_reducible refine r_I0 ?_)
  | ((with_reducible refine r_I ?hc ?_); (case hc => walk_at "cnd"))
  | (with_reducible refine r_test ?_)
  | (with_reducible refine r_tB ?_)
  | (with_reducible refine r_bl ?_)
  | (with_reducible refine r_not ?_)
  | (with_reducible refine r_and ?_)
  | (with_reducible refine r_or ?_)
  | (with_reducible refine r_ifE ?_)
  | (with_reducible refine r_notV ?_)
  | (with_reducible refine r_andV ?_)
  | (with_reducible refine r_orV ?_)
  | (with_reducible refine r_chain ?_)
  | (with_reducible refine r_cb ?_)
  | (with_reducible refine r_call ?_)
  | (with_reducible refine r_callN ?_)
  | (with_reducible refine r_nil ?_)
  | (with_reducible refine r_cons ?_)
  | ((with_reducible refine r_lst ?_))
  | ((with_reducible refine r_tup ?_))
  | ((with_reducible refine r_new ?_ ?_); (exact Nat.le_of_ble_eq_true rfl); (intro p hp))
  | (with_reducible refine r_rInt1 ?_)
  | (with_reducible refine r_rIntB ?_)
  | (with_reducible refine r_rAbs ?_)
  | (with_reducible refine r_rMin2 ?_)
  | (with_reducible refine r_rMax2 ?_)
  | ((with_reducible refine r_rLenZ ?hz ?_); (case hz => first | assumption | exact Nat.le_of_ble_eq_true rfl | (refine Nat.le_trans ?_ (by decide : 100000 ≤ sizeLine); omega)))
  | ((with_reducible refine r_addZ ?hz ?_); (case hz => (refine Nat.le_trans ?_ (by decide : 100000 ≤ sizeLine); first | omega | (simp only [Str.length] at *; simp; omega))))
  | ((with_reducible refine r_mulZ ?hz ?h0 ?h1 ?_); (case hz => first | omega | exact Nat.le_of_ble_eq_true rfl); (case h0 => omega); (case h1 => omega))
  | ((with_reducible refine' r_rLenQ ?h1 ?_); (case h1 => first | (exact .inl (by assumption)) | (exact .inr (by assumption)) | (exact .inl (SqL.of (by walk_at "lk"))) | (exact .inr (SqT.of (by walk_at "lk")))))
  | ((with_reducible refine r_eq ?hs ?_); (case hs => exact rfl))
  | ((with_reducible refine r_ne ?hs ?_); (case hs => exact rfl))
  | (with_reducible refine r_inC ?_)
  | ((with_reducible refine' r_cat ?h1 ?h2 ?h3 ?_); (case h1 => walk_at "lk"); (case h2 => walk_at "lk"); (case h3 => exact Nat.le_of_ble_eq_true rfl); (intro p hp))
  | ((with_reducible refine' r_rep ?h1 ?h2 ?h3 ?h4 ?_); (case h1 => walk_at "lk"); (case h2 => omega); (case h3 => omega); (case h4 => exact Nat.le_of_ble_eq_true rfl); (intro p hp))
  | ((with_reducible refine' r_append ?h1 ?h2 ?_); (case h1 => walk_at "lk"); (case h2 => first | exact (show _ + 1 ≤ sizeLine from Nat.le_of_ble_eq_true rfl) | exact Nat.lt_of_le_of_lt (by omega : _ ≤ 100000) (by decide)))
  | (with_reducible refine r_bm ?_)
  | ((with_reducible refine' r_tyL ?h1 ?_); (case h1 => walk_at "lk"))
  | ((with_reducible refine' r_ixL ?h1 ?h2 ?_); (case h1 => first | assumption | exact SqL.of (by walk_at "lk")); (case h2 => exact rfl))
  | ((with_reducible refine' r_ixT ?h1 ?h2 ?_); (case h1 => first | assumption | exact SqT.of (by walk_at "lk")); (case h2 => exact rfl))
  | (with_reducible refine r_gsub ?_)
  | ((with_reducible refine' r_setL ?h1 ?h2 ?_); (case h1 => walk_at "lk"); (case h2 => exact rfl))
  | (with_reducible refine r_un ?_)
  | (with_reducible refine r_neg ?_)
  | (with_reducible refine r_iteT ?_)
  | (with_reducible refine r_iteNT ?_)
  | (with_reducible refine r_iteNF ?_)
  | (with_reducible refine r_iteF ?_)
  | (with_reducible refine r_next ?_)
  | (with_reducible refine r_drop ?_)
  | (with_reducible refine r_cont ?_)
  | (with_reducible refine r_brk ?_))
local macro_rules | `(tactic| walk_at "ty") => `(tactic| first
  | assumption
  | exact .base (.int _)
  | exact .base (.str _)
  | exact .base (.bl _)
  | exact .base .non
  | exact .byt _
  | exact .base (.lst (by walk_at "lk"))
  | exact .base (.tup (by walk_at "lk")))
local macro_rules | `(tactic| walk_at "rd2") => `(tactic| first
  | walk_at "rd1"
  | ((with_reducible refine' r_isi true ?ht ?hk ?_); (case ht => walk_at "ty"); (case hk => first | assumption | decide +kernel))
  | ((with_reducible refine' r_isi false ?ht ?hk ?_); (case ht => walk_at "ty"); (case hk => first | assumption | decide +kernel))
  | ((with_reducible refine' r_isiT2 true true ?hT ?ht ?hk ?hk2 ?_); (case hT => walk_at "lk"); (case ht => walk_at "ty"); (case hk => decide +kernel); (case hk2 => decide +kernel))
  | ((with_reducible refine' r_isiT2 true false ?hT ?ht ?hk ?hk2 ?_); (case hT => walk_at "lk"); (case ht => walk_at "ty"); (case hk => decide +kernel); (case hk2 => decide +kernel))
  | ((with_reducible refine' r_isiT2 false true ?hT ?ht ?hk ?hk2 ?_); (case hT => walk_at "lk"); (case ht => walk_at "ty"); (case hk => decide +kernel); (case hk2 => decide +kernel))
  | ((with_reducible refine' r_isiT2 false false ?hT ?ht ?hk ?hk2 ?_); (case hT => walk_at "lk"); (case ht => walk_at "ty"); (case hk => decide +kernel); (case hk2 => decide +kernel))
  | (with_reducible refine r_iteNT ?_)
  | ((show (if (!true) = true then _ else _)); refine r_iteNT ?_)
  | (with_reducible refine r_r1 ?_)
  | (with_reducible refine r_maks ?_)
  | (with_reducible refine r_sfld ?_)
  | ((with_reducible refine' r_sfldE ?h1 ?h2 ?h3 ?h4 ?_); (case h1 => walk_at "lk"); (case h2 => assumption); (case h3 => assumption); (case h4 => exact (show _ + 1 ≤ 1000 from Nat.le_of_ble_eq_true rfl)))
  | (with_reducible refine r_fld ?_)
  | (with_reducible refine r_join ?_)
  | (with_reducible refine r_jcons ?_)
  | (with_reducible refine r_jnil ?_)
  | ((with_reducible refine r_rLenY ?hz ?_); (case hz => first | assumption | (refine Nat.le_trans ?_ (by decide : 100000 ≤ sizeLine); omega)))
  | (with_reducible refine r_par ?_)
  | (with_reducible refine r_pair ?_)
  | (with_reducible refine r_par3 ?_)
  | (with_reducible refine r_trip ?_)
  | ((with_reducible refine' r_gtup ?h1 ?h2 ?_); (case h1 => first | assumption | exact SqT.of (by walk_at "lk")); (case h2 => exact rfl))
  | (with_reducible refine r_gcons ?_)
  | (with_reducible refine r_gnil ?_)
  | ((with_reducible refine' r_slL ?h1 ?_); (case h1 => first | assumption | exact SqL.of (by walk_at "lk")); (intro p hp))
  | (with_reducible refine r_iTup ?_)
  | ((with_reducible refine' r_tupE ?h1 ?_); (case h1 => first | assumption | exact SqT.of (by walk_at "lk")))
  | (with_reducible refine r_m1 ?_)
  | (with_reducible refine r_isZ ?_)
  | (with_reducible refine r_sl ?_)
  | (with_reducible refine r_noPart ?_)
  | (with_reducible refine r_part ?_)
  | (with_reducible refine r_partE ?_)
  | ((with_reducible refine r_slS ?hz ?_); (case hz => first | assumption | (refine Nat.le_trans ?_ (by decide : 100000 ≤ sizeLine); omega)))
  | ((with_reducible refine' r_inT ?h1 ?h2 ?h3 ?_); (case h1 => first | assumption | (exact SqT.of (by walk_at "lk"))); (case h2 => exact rfl); (case h3 => exact rfl))
  | ((with_reducible refine' r_inL ?h1 ?h2 ?h3 ?_); (case h1 => first | assumption | (exact SqL.of (by walk_at "lk"))); (case h2 => exact rfl); (case h3 => exact rfl))
  | (with_reducible refine r_lc ?_)
  | (with_reducible refine r_for ?_)
  | (with_reducible refine r_iStr ?_)
  | (with_reducible refine r_strE ?_)
  | (with_reducible refine r_iList ?_)
  | ((with_reducible refine' r_listE ?h1 ?_); (case h1 => first | assumption | exact SqL.of (by walk_at "lk")))
  | (with_reducible refine r_iRng1 ?_)
  | ((with_reducible refine' r_rngE ?h0 ?h1 ?_); (case h0 => first | omega | (split <;> omega)); (case h1 => first | omega | (split <;> omega))))
local macro_rules | `(tactic| walk_at "rd") => `(tactic| (repeat walk_at "rd2"))
local macro_rules | `(tactic| walk_at "st") => `(tactic| (repeat (first
  | (with_reducible refine r_gname ?_)
  | (with_reducible refine r_next ?_)
  | (with_reducible refine r_seq ?_)
  | (with_reducible refine r_asg ?_)
  | (with_reducible refine r_ret ?_)
  | (with_reducible refine r_for ?_)
  | (with_reducible refine r_iRng1 ?_)
  | (with_reducible refine r_iList ?_)
  | (with_reducible refine r_cons ?_)
  | (with_reducible refine r_par ?_)
  | (with_reducible refine r_par3 ?_))))
/-! ### the law's own fields -/
def codesL (z : Str) : List Int := z.cps.toList.map fun c => ((c : Nat) : Int)
def nL (l : List Nat) : List Int := l.map fun c => ((c : Nat) : Int)
theorem nL_app (a b : List Nat) : nL (a ++ b) = nL a ++ nL b := List.map_append ..
theorem vL_app (a b : List Int) : (a ++ b).map V.int = a.map V.int ++ b.map V.int := List.map_append ..
theorem pe_revLK {X : Cx} (K : PySem.W.Frag) {e : Expr} {te : TE} {k : Nat} {p1 p2 p3 pos : Pos} (he : PE X e te) (hK : X.K = K := by rfl) : PE X (.Subscript e (.Slice none none (some (.UnaryOp .USub (.Constant (.int 1) k p1) p2)) p3) pos) (tRevL K te) := hK ▸ pe_revL he
theorem r_revL {K : PySem.W.Frag} {te : TE} {σ : L2.St} {H : Hp} {Q : VK} (h : te σ H fun x H1 => ∃ a xs, x = .ref a ∧ SqL K H1 a xs ∧ ∀ p, H1 p = none → Q (.ref p) (upd H1 p (.lst xs.reverse))) : tRevL K te σ H Q := h
def rOrd : List V → Hp → VK → Prop := fun xs H Q => ∃ x : Str, xs = [.str x] ∧ x.length = 1 ∧ Q (.int (x.cps.getD 0 0 : Nat)) H
theorem call_ordN {X : Cx} : CallR X (.builtin "ord") rOrd := call_ord
theorem r_ord {c : Nat} {H : Hp} {Q : VK} (h : Q (.int (c : Int)) H) : rOrd [.str ⟨#[c]⟩] H Q := ⟨_, rfl, rfl, h⟩
theorem none_old {H H' : Hp} {a : Addr} (h : H' a = none) (e : ∀ o, H a = some o → ∃ o', H' a = some o') : H a = none := by
  cases x : H a with
  | none => rfl
  | some o =>
    obtain ⟨o', h'⟩ := e o x
    rw [h] at h'
    cases h'
section
variable {P : Program} {w : World} {K : PySem.W.Frag} {mg : Str → Option Value} {base : Heap}
def spCodes : Sp := fun vs H Q _ => ∃ z : Str, vs = [.str z] ∧ z.length ≤ 1000 ∧ ∀ p H', H p = none → Same H H' → H' p = some (.lst ((codesL z).map V.int)) → Q (.ref p) H'
theorem sp_codes {z : Str} {H : Hp} {Q : VK} {E : XK} (hz : z.length ≤ 1000) (k : ∀ p H', H p = none → Same H H' → H' p = some (.lst ((codesL z).map V.int)) → Q (.ref p) H') : spCodes ([.str z] ++ []) H Q E := ⟨z, rfl, hz, k⟩
theorem ok_codes {f : Addr} {fd : FuncData} {k : Nat} (F : Fun K "_law_codes" "_law_codes" s__law_codes f fd) (m1 : mg "ord" = none) : FnOk P w K mg base CX0 (k + 2) f fd ["_law_text"] spCodes := by
  refine F.ok sc__law_codes (fun vs H Q E h => ?_) (fun cdv A outer s H vs Q E hr h => ?_)
  · obtain ⟨z, rfl, _⟩ := h
    rfl
  · obtain ⟨z, rfl, hz, q⟩ := h
    have hu := hu_of hr
    have nd := sc__law_codes.nd
    refine ⟨_, (pss_one (ps_ret (pe_lc (own := [("_law_sign", 1)]) (g := (gName 1)) (tt := tYes) rfl nd (pi_str (pv 0)) (blkOk_by (N := N__law_codes) (sc := defScope s__law_codes) (by decide +kernel)) (fun _ _ _ _ _ => (pg_name (i := 1) nd rfl (Or.inl rfl))) (fun _ _ _ _ _ => pts_nil) (fun _ _ _ _ _ => (pe_callB call_ordN (by rfl) (by assumption) (by decide +kernel) (pa_cons (pv 1) pa_nil)))))), ?_⟩
    walk_at "rd"
    intro D hD
    refine lc_map (cs := z.cps.toList) (enc := fun c => V.str ⟨#[c]⟩) (f := fun c => V.int ((c : Nat) : Int)) walk_strC hD (by have : z.cps.size ≤ 1000 := hz; rw [Array.length_toList]; exact Nat.lt_of_le_of_lt this (by decide)) (fun H' e => True.intro) (fun x => rfl) ?_ ?_
    · intro c hc H' e Q' k'
      walk_at "rd"
      refine r_ord ?_
      exact k' _ (Same.refl _)
    · intro H' e hl
      refine q D H' hD (fun b o x => e b o (by walk_at "lk")) ?_
      rw [hl]
      unfold codesL
      rw [List.map_map]
      rfl
def spOctal : Sp := fun vs H Q _ => ∃ n k : Nat, vs = [.int (n : Int), .int (k : Int)] ∧ 1 ≤ k ∧ k ≤ 20 ∧ n < 8589934592 ∧ ∀ p H', H p = none → Same H H' → H' p = some (.lst ((nL ((Bt.digs (k - 1) n).reverse ++ [0])).map V.int)) → Q (.ref p) H'
theorem sp_octal {n k : Nat} {H : Hp} {Q : VK} {E : XK} (h1 : 1 ≤ k) (h2 : k ≤ 20) (h3 : n < 8589934592) (q : ∀ p H', H p = none → Same H H' → H' p = some (.lst ((nL ((Bt.digs (k - 1) n).reverse ++ [0])).map V.int)) → Q (.ref p) H') : spOctal ([.int (n : Int), .int (k : Int)] ++ []) H Q E := ⟨n, k, rfl, h1, h2, h3, q⟩
theorem digs_snoc : ∀ (j n : Nat), Bt.digs (j + 1) n = Bt.digs j n ++ [48 + n / 8 ^ j % 8]
  | 0, n => by simp [Bt.digs]
  | j + 1, n => by
    rw [Bt.digs, digs_snoc j (n / 8), Bt.digs, List.cons_append, Nat.div_div_eq_div_mul, ← Nat.pow_succ']
theorem ok_octal {f : Addr} {fd : FuncData} {k : Nat} (F : Fun K "_law_octal" "_law_octal" s__law_octal f fd) (m1 : mg "range" = none) (m2 : mg "int" = none) : FnOk P w K mg base CX0 (k + 2) f fd ["_law_number", "_law_width"] spOctal := by
  refine F.ok sc__law_octal (fun vs H Q E h => ?_) (fun cdv A outer s H vs Q E hr h => ?_)
  · obtain ⟨n, k, rfl, _⟩ := h
    rfl
  · obtain ⟨n, k, rfl, h1, h2, h3, q⟩ := h
    have hu := hu_of hr
    have nd := sc__law_octal.nd
    refine ⟨_, (pss_cons (ps_set (i := 2) nd rfl (Or.inl rfl) (pe_lst pa_nil))
      (pss_cons (ps_for PassesOwn.never rfl (pi_range1 (by rfl) (by assumption) (pa_cons (pe_op op_sub (pv 1) pe_int) pa_nil)) (pg_name (i := 3) nd rfl (Or.inl rfl))
        (pss_cons (ps_expr (pe_bm PySem.F.plainAttrs_list PySem.F.slot_list_append PySem.F.type_list_append mt_append (pv 2) (pa_cons (pe_op op_add pe_int (pe_op op_mod (pe_callTy call_rInt1 (by rfl) (by assumption) (by decide +kernel) (pa_cons (pv 0) pa_nil)) pe_int)) pa_nil)))
      (pss_one (ps_set (i := 0) nd rfl (Or.inl rfl) (pe_op op_fdivW (pv 0) pe_int)))))
      (pss_one (ps_ret (pe_op op_cat (pe_revLK K (pv 2)) (pe_lst (pa_cons pe_int pa_nil))))))), ?_⟩
    walk_at "rd"
    rename_i p hp
    have hk1 : ((k : Int) - 1).toNat = k - 1 := by omega
    rw [hk1]
    refine for_it (walk_range (lo := 0) (n := k - 1)) (fun i σ H' => ∃ v : Option V, σ = [some (.int ((n / 8 ^ i : Nat) : Int)), some (.int (k : Int)), some (.ref p), v] ∧ Same H H' ∧ H' p = some (.lst ((nL (Bt.digs i n)).map V.int))) ?_ (fun _ _ _ _ _ => True.intro) ?_ ?_
    · refine ⟨none, ?_, same_new hp, upd_same⟩
      simp
      rfl
    · rintro i x σ Hc H' hi ⟨v, rfl, es, hl⟩ ⟨rfl, rfl⟩
      have hn8 : n / 8 ^ i ≤ n := Nat.div_le_self ..
      generalize hm : n / 8 ^ i = m at *
      walk_at "rd"
      refine r_append hl (by rw [List.length_map, nL, List.length_map, Bt.digs_len]; exact Nat.lt_of_le_of_lt (by omega : i ≤ 100) (by decide)) ?_
      walk_at "rd"
      refine ⟨some (.int (0 + (i : Int))), ?_, fun b o eo => ?_, ?_⟩
      · have e1 : ((n / 8 ^ (i + 1) : Nat) : Int) = (m : Int) / 8 := by
          rw [Nat.pow_succ, ← Nat.div_div_eq_div_mul, hm]
          omega
        rw [e1]
        rfl
      · rw [upd_ne (ne_of_none eo hp)]
        exact es _ _ eo
      · rw [upd_same, digs_snoc, hm, nL_app, vL_app]
        have e2 : (nL [48 + m % 8]).map V.int = [V.int (48 + (m : Int) % 8)] := by
          show [V.int ((48 + m % 8 : Nat) : Int)] = _
          rw [Int.natCast_add, Int.natCast_emod]
          rfl
        rw [e2]
    · rintro σ Hc ⟨v, rfl, es, hl⟩
      walk_at "rd"
      refine r_revL ?_
      walk_at "rd"
      refine ⟨_, _, rfl, SqL.of hl, fun q1 hq1 => ?_⟩
      walk_at "rd"
      rename_i q2 hq2
      refine r_cat (xs := ((nL (Bt.digs (k - 1) n)).map V.int).reverse) (zs := [V.int 0]) (upd_old hq2 upd_same) upd_same ?_ fun q3 hq3 => ?_
      · rw [List.length_reverse, List.length_map, nL, List.length_map, Bt.digs_len]
        exact Nat.le_trans (by simp; omega : _ ≤ 100) (by decide)
      · have hq3' : H q3 = none := none_old hq3 (fun o eo => ⟨o, upd_old hq2 (upd_old hq1 (es _ _ eo))⟩)
        refine q q3 _ hq3' (fun b o eo => upd_old hq3 (upd_old hq2 (upd_old hq1 (es _ _ eo)))) ?_
        rw [upd_same, nL_app, vL_app]
        have e3 : nL (Bt.digs (k - 1) n).reverse = (nL (Bt.digs (k - 1) n)).reverse := List.map_reverse ..
        rw [e3, List.map_reverse]
        rfl
end
end Th
namespace Th
open PySem PySem.Spec PyProof.Rows L2
local macro_rules | `(tactic| walk_at "lk") => `(tactic| first
  | assumption
  | exact upd_same
  | (refine upd_old (by assumption) ?_; walk_at "lk")
  | (refine upd_diff (by assumption) ?_; walk_at "lk")
  | (refine upd_diff (Ne.symm (by assumption)) ?_; walk_at "lk"))
local macro_rules | `(tactic| walk_at "cnd") => `(tactic| first
  | omega
  | (refine ⟨by omega, by omega⟩)
  | (refine ⟨by omega, by omega, by omega⟩)
  | (refine .inl ⟨by omega, by omega⟩)
  | (refine .inr ⟨by omega, by omega⟩)
  | (exact (show CPow _ _ from ⟨by decide, by decide, by omega⟩))
  | decide +kernel
  | (unfold CMulW; decide +kernel)
  | (exact wide_div (b := 64) (by omega) (by omega) (by decide) (by decide)))
local macro_rules | `(tactic| walk_at "rd1") => `(tactic| first
  | (with_reducible refine r_seq ?_)
  | (with_reducible refine r_asg ?_)
  | (with_reducible refine r_ret ?_)
  | (with_reducible refine r_if ?_)
  | (with_reducible refine r_gname ?_)
  | ((with_reducible refine' r_var ?hv ?_); (case hv => exact rfl))
  | (with_reducible refine r_c ?_)
  | (with_reducible refine r_op ?_)
  | (with_reducible refine r_I0 ?_)
  | ((with_reducible refine r_I ?hc ?_); (case hc => walk_at "cnd"))
  | (with_reducible refine r_test ?_)
  | (with_reducible refine r_tB ?_)
  | (with_reducible refine r_bl ?_)
  | (with_reducible refine r_not ?_)
  | (with_reducible refine r_and ?_)
  | (with_reducible refine r_or ?_)
  | (with_reducible refine r_ifE ?_)
  | (with_reducible refine r_notV ?_)
  | (with_reducible refine r_andV ?_)
  | (with_reducible refine r_orV ?_)
  | (with_reducible refine r_chain ?_)
  | (with_reducible refine r_cb ?_)
  | (with_reducible refine r_call ?_)
  | (with_reducible refine r_callN ?_)
  | (with_reducible refine r_nil ?_)
  | (with_reducible refine r_cons ?_)
  | ((with_reducible refine r_lst ?_))
  | ((with_reducible refine r_tup ?_))
  | ((with_reducible refine r_new ?_ ?_); (exact Nat.le_of_ble_eq_true rfl); (intro p hp))
  | (with_reducible refine r_rInt1 ?_)
  | (with_reducible refine r_rIntB ?_)
  | (with_reducible refine r_rAbs ?_)
  | (with_reducible refine r_rMin2 ?_)
  | (with_reducible refine r_rMax2 ?_)
  | ((with_reducible refine r_rLenZ ?hz ?_); (case hz => first | assumption | exact Nat.le_of_ble_eq_true rfl | (refine Nat.le_trans ?_ (by decide : 100000 ≤ sizeLine); omega)))
  | ((with_reducible refine r_addZ ?hz ?_); (case hz => (refine Nat.le_trans ?_ (by decide : 100000 ≤ sizeLine); first | omega | (simp only [Str.length] at *; simp; omega))))
  | ((with_reducible refine r_mulZ ?hz ?h0 ?h1 ?_); (case hz => first | omega | exact Nat.le_of_ble_eq_true rfl); (case h0 => omega); (case h1 => omega))
  | ((with_reducible refine' r_rLenQ ?h1 ?_); (case h1 => first | (exact .inl (by assumption)) | (exact .inr (by assumption)) | (exact .inl (SqL.of (by walk_at "lk"))) | (exact .inr (SqT.of (by walk_at "lk")))))
  | ((with_reducible refine r_eq ?hs ?_); (case hs => exact rfl))
  | ((with_reducible refine r_ne ?hs ?_); (case hs => exact rfl))
  | (with_reducible refine r_inC ?_)
  | ((with_reducible refine' r_cat ?h1 ?h2 ?h3 ?_); (case h1 => walk_at "lk"); (case h2 => walk_at "lk"); (case h3 => exact Nat.le_of_ble_eq_true rfl); (intro p hp))
  | ((with_reducible refine' r_rep ?h1 ?h2 ?h3 ?h4 ?_); (case h1 => walk_at "lk"); (case h2 => omega); (case h3 => omega); (case h4 => exact Nat.le_of_ble_eq_true rfl); (intro p hp))
  | ((with_reducible refine' r_append ?h1 ?h2 ?_); (case h1 => walk_at "lk"); (case h2 => first | exact (show _ + 1 ≤ sizeLine from Nat.le_of_ble_eq_true rfl) | exact Nat.lt_of_le_of_lt (by omega : _ ≤ 100000) (by decide)))
  | (with_reducible refine r_bm ?_)
  | ((with_reducible refine' r_tyL ?h1 ?_); (case h1 => walk_at "lk"))
  | ((with_reducible refine' r_ixL ?h1 ?h2 ?_); (case h1 => first | assumption | exact SqL.of (by walk_at "lk")); (case h2 => exact rfl))
  | ((with_reducible refine' r_ixT ?h1 ?h2 ?_); (case h1 => first | assumption | exact SqT.of (by walk_at "lk")); (case h2 => exact rfl))
  | (with_reducible refine r_gsub ?_)
  | ((with_reducible refine' r_setL ?h1 ?h2 ?_); (case h1 => walk_at "lk"); (case h2 => exact rfl))
  | (with_reducible refine r_un ?_)
  | (with_reducible refine r_neg ?_)
  | (with_reducible refine r_iteT ?_)
  | (with_reducible refine r_iteNT ?_)
  | (with_reducible refine r_iteNF ?_)
  | (with_reducible refine r_iteF ?_)
  | (with_reducible refine r_next ?_)
  | (with_reducible refine r_drop ?_)
  | (with_reducible refine r_cont ?_)
  | (with_reducible refine r_brk ?_))
local macro_rules | `(tactic| walk_at "ty") => `(tactic| first
  | assumption
  | exact .base (.int _)
  | exact .base (.str _)
  | exact .base (.bl _)
  | exact .base .non
  | exact .byt _
  | exact .base (.lst (by walk_at "lk"))
  | exact .base (.tup (by walk_at "lk")))
local macro_rules | `(tactic| walk_at "rd2") => `(tactic| first
  | walk_at "rd1"
  | ((with_reducible refine' r_isi true ?ht ?hk ?_); (case ht => walk_at "ty"); (case hk => first | assumption | decide +kernel))
  | ((with_reducible refine' r_isi false ?ht ?hk ?_); (case ht => walk_at "ty"); (case hk => first | assumption | decide +kernel))
  | ((with_reducible refine' r_isiT2 true true ?hT ?ht ?hk ?hk2 ?_); (case hT => walk_at "lk"); (case ht => walk_at "ty"); (case hk => decide +kernel); (case hk2 => decide +kernel))
  | ((with_reducible refine' r_isiT2 true false ?hT ?ht ?hk ?hk2 ?_); (case hT => walk_at "lk"); (case ht => walk_at "ty"); (case hk => decide +kernel); (case hk2 => decide +kernel))
  | ((with_reducible refine' r_isiT2 false true ?hT ?ht ?hk ?hk2 ?_); (case hT => walk_at "lk"); (case ht => walk_at "ty"); (case hk => decide +kernel); (case hk2 => decide +kernel))
  | ((with_reducible refine' r_isiT2 false false ?hT ?ht ?hk ?hk2 ?_); (case hT => walk_at "lk"); (case ht => walk_at "ty"); (case hk => decide +kernel); (case hk2 => decide +kernel))
  | (with_reducible refine r_iteNT ?_)
  | ((show (if (!true) = true then _ else _)); refine r_iteNT ?_)
  | (with_reducible refine r_r1 ?_)
  | (with_reducible refine r_maks ?_)
  | (with_reducible refine r_sfld ?_)
  | ((with_reducible refine' r_sfldE ?h1 ?h2 ?h3 ?h4 ?_); (case h1 => walk_at "lk"); (case h2 => assumption); (case h3 => assumption); (case h4 => exact (show _ + 1 ≤ 1000 from Nat.le_of_ble_eq_true rfl)))
  | (with_reducible refine r_fld ?_)
  | (with_reducible refine r_join ?_)
  | (with_reducible refine r_jcons ?_)
  | (with_reducible refine r_jnil ?_)
  | ((with_reducible refine r_rLenY ?hz ?_); (case hz => first | assumption | (refine Nat.le_trans ?_ (by decide : 100000 ≤ sizeLine); omega)))
  | (with_reducible refine r_par ?_)
  | (with_reducible refine r_pair ?_)
  | (with_reducible refine r_par3 ?_)
  | (with_reducible refine r_trip ?_)
  | ((with_reducible refine' r_gtup ?h1 ?h2 ?_); (case h1 => first | assumption | exact SqT.of (by walk_at "lk")); (case h2 => exact rfl))
  | (with_reducible refine r_gcons ?_)
  | (with_reducible refine r_gnil ?_)
  | ((with_reducible refine' r_slL ?h1 ?_); (case h1 => first | assumption | exact SqL.of (by walk_at "lk")); (intro p hp))
  | (with_reducible refine r_iTup ?_)
  | ((with_reducible refine' r_tupE ?h1 ?_); (case h1 => first | assumption | exact SqT.of (by walk_at "lk")))
  | (with_reducible refine r_m1 ?_)
  | (with_reducible refine r_isZ ?_)
  | (with_reducible refine r_sl ?_)
  | (with_reducible refine r_noPart ?_)
  | (with_reducible refine r_part ?_)
  | (with_reducible refine r_partE ?_)
  | ((with_reducible refine r_slS ?hz ?_); (case hz => first | assumption | (refine Nat.le_trans ?_ (by decide : 100000 ≤ sizeLine); omega)))
  | ((with_reducible refine' r_inT ?h1 ?h2 ?h3 ?_); (case h1 => first | assumption | (exact SqT.of (by walk_at "lk"))); (case h2 => exact rfl); (case h3 => exact rfl))
  | ((with_reducible refine' r_inL ?h1 ?h2 ?h3 ?_); (case h1 => first | assumption | (exact SqL.of (by walk_at "lk"))); (case h2 => exact rfl); (case h3 => exact rfl))
  | (with_reducible refine r_lc ?_)
  | (with_reducible refine r_for ?_)
  | (with_reducible refine r_iStr ?_)
  | (with_reducible refine r_strE ?_)
  | (with_reducible refine r_iList ?_)
  | ((with_reducible refine' r_listE ?h1 ?_); (case h1 => first | assumption | exact SqL.of (by walk_at "lk")))
  | (with_reducible refine r_iRng1 ?_)
  | ((with_reducible refine' r_rngE ?h0 ?h1 ?_); (case h0 => first | omega | (split <;> omega)); (case h1 => first | omega | (split <;> omega))))
local macro_rules | `(tactic| walk_at "rd") => `(tactic| (repeat walk_at "rd2"))
local macro_rules | `(tactic| walk_at "st") => `(tactic| (repeat (first
  | (with_reducible refine r_gname ?_)
  | (with_reducible refine r_next ?_)
  | (with_reducible refine r_seq ?_)
  | (with_reducible refine r_asg ?_)
  | (with_reducible refine r_ret ?_)
  | (with_reducible refine r_for ?_)
  | (with_reducible refine r_iRng1 ?_)
  | (with_reducible refine r_iList ?_)
  | (with_reducible refine r_cons ?_)
  | (with_reducible refine r_par ?_)
  | (with_reducible refine r_par3 ?_))))
/-! ### the law's head -/
def LN (H : Hp) (p : Addr) (xs : List Nat) : Prop := H p = some (.lst ((nL xs).map V.int))
theorem nL_len (xs : List Nat) : ((nL xs).map V.int).length = xs.length := by rw [List.length_map, nL, List.length_map]
theorem LN.same {H H' : Hp} {p : Addr} {xs : List Nat} (h : LN H p xs) (e : Same H H') : LN H' p xs := e _ _ h
theorem same_upd {H H' : Hp} {p : Addr} {o : HO} (e : Same H H') (hp : H' p = none) : Same H (upd H' p o) := fun b x eo => by
  rw [upd_ne (ne_of_none (e _ _ eo) hp)]
  exact e _ _ eo
theorem none_same {H H' : Hp} {p : Addr} (e : Same H H') (hp : H' p = none) : H p = none := none_old hp fun o eo => ⟨o, e _ _ eo⟩
theorem same_trans {H H' H2 : Hp} (e : Same H H') (f : Same H' H2) : Same H H2 := fun b o x => f _ _ (e _ _ x)
theorem catN {H : Hp} {p b : Addr} {xs ys : List Nat} {Q : VK} (h1 : LN H p xs) (h2 : LN H b ys) (hz : xs.length + ys.length ≤ 100000) (q : ∀ p' H', H p' = none → Same H H' → LN H' p' (xs ++ ys) → Q (.ref p') H') : rCat (.ref p) (.ref b) H Q := by
  refine r_cat h1 h2 (by rw [nL_len, nL_len]; exact Nat.le_trans hz (by decide)) fun r hr => q r _ hr (same_new hr) ?_
  show upd H r _ r = _
  rw [upd_same, nL_app, vL_app]
theorem cat_octal {H : Hp} {p : Addr} {acc : List Nat} {n k : Nat} {Q : VK} {E : XK} (h : LN H p acc) (hz : acc.length ≤ 1000) (h1 : 1 ≤ k) (h2 : k ≤ 20) (h3 : n < 8589934592)
    (q : ∀ p' H', H p' = none → Same H H' → LN H' p' (acc ++ ((Bt.digs (k - 1) n).reverse ++ [0])) → Q (.ref p') H') : spOctal ([.int (n : Int), .int (k : Int)] ++ []) H (fun y H2 => rCat (.ref p) y H2 Q) E := by
  refine sp_octal h1 h2 h3 fun r H1 hr e hl => ?_
  refine catN (h.same e) hl (by simp [Bt.digs_len]; omega) fun r2 H2 hr2 e2 hl2 => q r2 H2 (none_same e hr2) (same_trans e e2) hl2
theorem cat_codes {H : Hp} {p : Addr} {acc : List Nat} {z : Str} {Q : VK} {E : XK} (h : LN H p acc) (hz : acc.length ≤ 1000) (h1 : z.length ≤ 1000)
    (q : ∀ p' H', H p' = none → Same H H' → LN H' p' (acc ++ z.cps.toList) → Q (.ref p') H') : spCodes ([.str z] ++ []) H (fun y H2 => rCat (.ref p) y H2 Q) E := by
  refine sp_codes h1 fun r H1 hr e hl => ?_
  refine catN (h.same e) hl (by have : z.cps.size ≤ 1000 := h1; simp; omega) fun r2 H2 hr2 e2 hl2 => q r2 H2 (none_same e hr2) (same_trans e e2) hl2
theorem repN {H : Hp} {l : Addr} {k : Nat} {Q : VK} (hl : H l = some (.lst [.int 0])) (hk : k ≤ 1000) (q : ∀ p H', H p = none → Same H H' → LN H' p (List.replicate k 0) → Q (.ref p) H') : rRep (.ref l) (.int (k : Int)) H Q := by
  refine r_rep hl (by omega) (by omega) (Nat.le_trans (by simp; omega : _ ≤ 1000) (by decide)) fun p hp => q p _ hp (same_new hp) ?_
  show upd H p _ p = _
  rw [upd_same]
  congr 2
  simp [nL]
def rSumN (K : PySem.W.Frag) : List V → Hp → VK → Prop := rSum K
theorem call_sumK {X : Cx} (K : PySem.W.Frag) (hK : X.K = K := by rfl) (hc : X.calm = true := by rfl) : CallR X (.builtin "sum") (rSumN K) := hK ▸ cr_sum hc
theorem nL_sum (xs : List Nat) : (nL xs).sum = ((xs.sum : Nat) : Int) := by
  induction xs with
  | nil => rfl
  | cons x xs ih =>
    show (x : Int) + (nL xs).sum = _
    rw [ih, List.sum_cons]
    omega
theorem sumN {K : PySem.W.Frag} {H : Hp} {p : Addr} {xs : List Nat} {Q : VK} (h : LN H p xs) (q : Q (.int ((xs.sum : Nat) : Int)) H) : rSumN K [.ref p] H Q := by
  refine ⟨p, nL xs, rfl, SqL.of h, ?_⟩
  rw [nL_sum]
  exact q
theorem sIx_nat (L d n : Nat) : HT.sIx L d (some (n : Int)) = min n L := by
  unfold HT.sIx
  simp only []
  first | omega | (split <;> omega) | (simp; omega)
theorem sIx_none (L d : Nat) : HT.sIx L d none = d := rfl
theorem cutV_to (xs : List V) (n : Nat) : cutV xs none (some (n : Int)) = xs.take n := by
  unfold cutV
  rw [sIx_nat, sIx_none, List.drop_zero, Nat.sub_zero]
  rcases Nat.le_total n xs.length with h | h
  · rw [Nat.min_eq_left h]
  · rw [Nat.min_eq_right h, List.take_of_length_le (Nat.le_refl _), List.take_of_length_le h]
theorem cutV_from (xs : List V) (n : Nat) : cutV xs (some (n : Int)) none = xs.drop n := by
  unfold cutV
  rw [sIx_nat, sIx_none]
  rcases Nat.le_total n xs.length with h | h
  · rw [Nat.min_eq_left h, List.take_of_length_le (by rw [List.length_drop]; omega)]
  · rw [Nat.min_eq_right h, List.drop_eq_nil_of_le h, List.drop_eq_nil_of_le (Nat.le_refl _)]
    simp
theorem cut100 (xs : List Nat) : cutV ((nL xs).map V.int) none (some (100 : Int)) = (nL (xs.take 100)).map V.int := by
  rw [show (some (100 : Int)) = some ((100 : Nat) : Int) from rfl, cutV_to]
  unfold nL
  rw [← List.map_take, ← List.map_take]
theorem fld_law (z : Str) : (z.cps.toList ++ List.replicate 100 0).take 100 = fldT z := by
  unfold fldT
  rw [List.take_append, List.take_replicate, List.length_take]
  congr 2
  omega
/-- the front of a header, its back, and the whole -/
def FR (z : Str) (m s t : Nat) : List Nat := fldT z ++ fldO m 7 ++ fldO 0 7 ++ fldO 0 7 ++ fldO s 11 ++ fldO t 11
def BK (l a : Str) : List Nat := l.cps.toList ++ fldT a ++ [117, 115, 116, 97, 114] ++ [0, 48, 48] ++ List.replicate 247 0
def SM (l z a : Str) (m s t : Nat) : Nat := (FR z m s t).sum + (BK l a).sum + 256
def HD (l z a : Str) (m s t : Nat) : List Nat := FR z m s t ++ fldO (SM l z a m s t) 6 ++ [32] ++ BK l a
theorem sum_le : ∀ (xs : List Nat), (∀ x ∈ xs, x ≤ 127) → xs.sum ≤ 127 * xs.length
  | [], _ => by simp
  | x :: xs, h => by
    have h1 := h x (.head _)
    have h2 := sum_le xs fun y hy => h y (.tail _ hy)
    rw [List.sum_cons, List.length_cons]
    omega
theorem fldT_len (z : Str) : (fldT z).length = 100 := by
  unfold fldT
  rw [List.length_append, List.length_replicate, List.length_take]
  omega
theorem fldO_len {n k : Nat} (hk : 1 ≤ k) (h : n < 8 ^ k) : (fldO n k).length = k + 1 := by
  unfold fldO
  rw [List.length_append, Bt.octP_length hk h]
  rfl
theorem FR_len {z : Str} {m s t : Nat} (hm : m < 8 ^ 7) (hs : s < 8 ^ 11) (ht : t < 8 ^ 11) : (FR z m s t).length = 148 := by
  unfold FR
  simp only [List.length_append, fldT_len, fldO_len (show 1 ≤ 7 by decide) hm, fldO_len (show 1 ≤ 7 by decide) (show 0 < 8 ^ 7 by decide), fldO_len (show 1 ≤ 11 by decide) hs, fldO_len (show 1 ≤ 11 by decide) ht]
theorem BK_len {l a : Str} (hl : l.cps.toList.length = 1) : (BK l a).length = 356 := by
  unfold BK
  simp only [List.length_append, fldT_len, hl, List.length_replicate]
  rfl
theorem fldT_le {z : Str} (h : PySem.W.KSb.Asc z) : ∀ x ∈ fldT z, x ≤ 127 := fun x hx => by
  unfold fldT at hx
  rcases List.mem_append.mp hx with hx | hx
  · have := h x (List.mem_of_mem_take hx)
    omega
  · have := List.eq_of_mem_replicate hx
    omega
theorem fldO_le (n k : Nat) : ∀ x ∈ fldO n k, x ≤ 127 := fun x hx => by
  unfold fldO at hx
  rcases List.mem_append.mp hx with hx | hx
  · have := Bt.octP_signs n k x hx
    omega
  · have := List.mem_singleton.mp hx
    omega
theorem FR_le {z : Str} {m s t : Nat} (hz : PySem.W.KSb.Asc z) : ∀ x ∈ FR z m s t, x ≤ 127 := fun x hx => by
  unfold FR at hx
  simp only [List.mem_append] at hx
  rcases hx with ((((hx | hx) | hx) | hx) | hx) | hx
  · exact fldT_le hz x hx
  all_goals exact fldO_le _ _ x hx
theorem BK_le {l a : Str} (hl : PySem.W.KSb.Asc l) (ha : PySem.W.KSb.Asc a) : ∀ x ∈ BK l a, x ≤ 127 := fun x hx => by
  unfold BK at hx
  simp only [List.mem_append] at hx
  rcases hx with (((hx | hx) | hx) | hx) | hx
  · have := hl x hx
    omega
  · exact fldT_le ha x hx
  · simp at hx
    omega
  · simp at hx
    omega
  · have := List.eq_of_mem_replicate hx
    omega
theorem SM_lt {l z a : Str} {m s t : Nat} (hl' : l.cps.toList.length = 1) (hl : PySem.W.KSb.Asc l) (hz : PySem.W.KSb.Asc z) (ha : PySem.W.KSb.Asc a) (hm : m < 8 ^ 7) (hs : s < 8 ^ 11) (ht : t < 8 ^ 11) : SM l z a m s t < 8 ^ 6 := by
  have h1 := sum_le _ (FR_le (z := z) (m := m) (s := s) (t := t) hz)
  have h2 := sum_le _ (BK_le hl ha)
  rw [FR_len hm hs ht] at h1
  rw [BK_len hl'] at h2
  unfold SM
  omega
section
variable {P : Program} {w : World} {K : PySem.W.Frag} {mg : Str → Option Value} {base : Heap}
def spHead (K : PySem.W.Frag) : Sp := fun vs H Q _ => ∃ (l z a : Str) (p : Addr) (m s t : Nat), vs = [.str l, .str z, .ref p, .str a] ∧ (SqL K H p [.int (m : Int), .int (s : Int), .int (t : Int)] ∨ SqT K H p [.int (m : Int), .int (s : Int), .int (t : Int)]) ∧
  l.length = 1 ∧ z.length ≤ 1000 ∧ a.length ≤ 1000 ∧ PySem.W.KSb.Asc l ∧ PySem.W.KSb.Asc z ∧ PySem.W.KSb.Asc a ∧ m < 8 ^ 7 ∧ s < 8 ^ 11 ∧ t < 8 ^ 11 ∧ ∀ p' H', H p' = none → Same H H' → LN H' p' (HD l z a m s t) → Q (.ref p') H'
def IxN (K : PySem.W.Frag) : R2 := fun x y H Q => rIxL K x y H Q ∨ rIxT K x y H Q
theorem ix_N {X : Cx} (K : PySem.W.Frag) (hK : X.K = K := by rfl) : IxR X (IxN K) := IxR.or (ix_listK K hK) (ix_tupK K hK)
theorem r_ixN {K : PySem.W.Frag} {H : Hp} {p : Addr} {xs : List V} {i : Int} {v : V} {Q : VK} (hp : SqL K H p xs ∨ SqT K H p xs) (hi : atI xs i = some v) (h : Q v H) : IxN K (.ref p) (.int i) H Q := by
  rcases hp with hp | hp
  · exact .inl (r_ixL hp hi h)
  · exact .inr (r_ixT hp hi h)
theorem rd_same {H H' : Hp} {p : Addr} {o : HO} (e : Same H H') (h : Rd H p o) : Rd H' p o := by
  rcases h with h | h
  · exact .inl (e _ _ h)
  · exact .inr (by first | exact e _ _ h | (obtain ⟨a, h⟩ := h; exact ⟨a, e _ _ h⟩))
theorem sq_same {K : PySem.W.Frag} {H H' : Hp} {p : Addr} {xs : List V} (e : Same H H') (h : SqL K H p xs ∨ SqT K H p xs) : SqL K H' p xs ∨ SqT K H' p xs := by
  rcases h with h | h
  · exact .inl (h.imp (fun h => rd_same e h) id)
  · exact .inr (h.imp (fun h => rd_same e h) id)
def digsL (n k : Nat) : List Nat := (Bt.digs (k - 1) n).reverse ++ [0]
theorem digsL_eq {n k : Nat} (hk : 2 ≤ k) (h : n < 8 ^ (k - 1)) : digsL n k = fldO n (k - 1) := by
  unfold digsL fldO
  rw [Bt.digs_oct (k - 1) n (by omega) h]
theorem ok_head {f : Addr} {fd : FuncData} {k : Nat} (F : Fun K "_law_head" "_law_head" s__law_head f fd) (c_codes : CalT P w K mg base 2 "_law_codes" spCodes) (c_octal : CalT P w K mg base 2 "_law_octal" spOctal) (m1 : mg "sum" = none) :
    FnOk P w K mg base CX0 (k + 3) f fd ["_law_letter", "_law_label", "_law_numbers", "_law_aim2"] (spHead K) := by
  refine F.ok sc__law_head (fun vs H Q E h => ?_) (fun cdv A outer s H vs Q E hr h => ?_)
  · obtain ⟨l, z, a, p, m, s, t, rfl, _⟩ := h
    rfl
  · obtain ⟨l, z, a, p, m, s, t, rfl, hp, hl, hz, ha, hla, hza, haa, hm, hs, ht, q⟩ := h
    have hu := hu_of hr
    have nd := sc__law_head.nd
    refine ⟨_, (pss_cons (ps_set (i := 4) nd rfl (Or.inl rfl) (pe_op op_cat (pe_op op_cat (pe_op op_cat (pe_slice (sl_listK K) (pe_op op_cat (pe_cc c_codes hr (by omega) (by rfl) (pa_cons (pv 1) pa_nil)) (pe_op op_rep (pe_lst (pa_cons pe_int pa_nil)) pe_int)) po_none (po_some pe_int)) (pe_cc c_octal hr (by omega) (by rfl) (pa_cons (pe_ix (ix_N K) (pv 2) pe_int (fun _ _ => rfl)) (pa_cons pe_int pa_nil)))) (pe_cc c_octal hr (by omega) (by rfl) (pa_cons pe_int (pa_cons pe_int pa_nil)))) (pe_cc c_octal hr (by omega) (by rfl) (pa_cons pe_int (pa_cons pe_int pa_nil)))))
      (pss_cons (ps_set (i := 4) nd rfl (Or.inl rfl) (pe_op op_cat (pe_op op_cat (pv 4) (pe_cc c_octal hr (by omega) (by rfl) (pa_cons (pe_ix (ix_N K) (pv 2) pe_int (fun _ _ => rfl)) (pa_cons pe_int pa_nil)))) (pe_cc c_octal hr (by omega) (by rfl) (pa_cons (pe_ix (ix_N K) (pv 2) pe_int (fun _ _ => rfl)) (pa_cons pe_int pa_nil)))))
      (pss_cons (ps_set (i := 5) nd rfl (Or.inl rfl) (pe_op op_cat (pe_op op_cat (pe_op op_cat (pe_op op_cat (pe_cc c_codes hr (by omega) (by rfl) (pa_cons (pv 0) pa_nil)) (pe_slice (sl_listK K) (pe_op op_cat (pe_cc c_codes hr (by omega) (by rfl) (pa_cons (pv 3) pa_nil)) (pe_op op_rep (pe_lst (pa_cons pe_int pa_nil)) pe_int)) po_none (po_some pe_int))) (pe_cc c_codes hr (by omega) (by rfl) (pa_cons pe_str pa_nil))) (pe_lst (pa_cons pe_int (pa_cons pe_int (pa_cons pe_int pa_nil))))) (pe_op op_rep (pe_lst (pa_cons pe_int pa_nil)) pe_int)))
      (pss_one (ps_ret (pe_op op_cat (pe_op op_cat (pe_op op_cat (pv 4) (pe_cc c_octal hr (by omega) (by rfl) (pa_cons (pe_op op_add (pe_op op_add (pe_callB (call_sumK K) (by rfl) (by assumption) (by decide +kernel) (pa_cons (pv 4) pa_nil)) (pe_callB (call_sumK K) (by rfl) (by assumption) (by decide +kernel) (pa_cons (pv 5) pa_nil))) pe_int) (pa_cons pe_int pa_nil)))) (pe_lst (pa_cons pe_int pa_nil))) (pv 5))))))), ?_⟩
    have h0l : (digsL 0 8) = fldO 0 7 := digsL_eq (by decide) (by decide)
    have hml : (digsL m 8) = fldO m 7 := digsL_eq (by decide) hm
    have hsl : (digsL s 12) = fldO s 11 := digsL_eq (by decide) hs
    have htl : (digsL t 12) = fldO t 11 := digsL_eq (by decide) ht
    have hzr : z.cps.toList.length ≤ 1000 := by simpa [Str.length] using hz
    have har : a.cps.toList.length ≤ 1000 := by simpa [Str.length] using ha
    walk_at "rd"
    refine sp_codes hz fun p1 H1 hp1 e1 hl1 => ?_
    walk_at "rd"
    rename_i q1 hq1 q2 hq2
    refine catN (xs := z.cps.toList) (ys := List.replicate 100 0) (upd_old hq2 (upd_old hq1 hl1)) (by unfold LN; rw [upd_same]; rfl) (by rw [List.length_replicate]; omega) fun p2 H2 hp2 e2 hl2 => ?_
    have f2 := same_trans (same_upd (same_upd e1 hq1) hq2) e2
    walk_at "rd"
    rename_i p3 hp3
    have l3 : LN (upd H2 p3 (.lst (cutV (List.map V.int (nL (z.cps.toList ++ List.replicate 100 0))) none (some 100)))) p3 (fldT z) := by
      unfold LN
      rw [upd_same, cut100, fld_law]
    have f3 : Same H (upd H2 p3 (.lst (cutV (List.map V.int (nL (z.cps.toList ++ List.replicate 100 0))) none (some 100)))) := same_upd f2 hp3
    clear hl2 e2 hp2 hp3 f2
    generalize upd H2 p3 (.lst (cutV (List.map V.int (nL (z.cps.toList ++ List.replicate 100 0))) none (some 100))) = H3 at *
    clear H2 p2 hq2 hq1 hl1 e1 hp1 H1 p1 q1 q2
    refine r_ixN (sq_same f3 hp) rfl ?_
    walk_at "rd"
    refine cat_octal (n := m) (k := 8) l3 (by rw [fldT_len]; omega) (by decide) (by decide) (by omega) fun p4 H4 hp4 e4 l4 => ?_
    have g4 := same_trans f3 e4
    have l4 : LN H4 p4 (fldT z ++ fldO m 7) := by rw [← hml]; exact l4
    walk_at "rd"
    refine cat_octal (n := 0) (k := 8) l4 (by rw [List.length_append, fldT_len, fldO_len (by decide) hm]; omega) (by decide) (by decide) (by decide) fun p5 H5 hp5 e5 l5 => ?_
    have g5 := same_trans g4 e5
    have l5 : LN H5 p5 (fldT z ++ fldO m 7 ++ fldO 0 7) := by rw [← h0l]; exact l5
    walk_at "rd"
    refine cat_octal (n := 0) (k := 8) l5 (by rw [List.length_append, List.length_append, fldT_len, fldO_len (by decide) hm, fldO_len (n := 0) (by decide) (by decide)]; omega) (by decide) (by decide) (by decide) fun p6 H6 hp6 e6 l6 => ?_
    have g6 := same_trans g5 e6
    have l6 : LN H6 p6 (fldT z ++ fldO m 7 ++ fldO 0 7 ++ fldO 0 7) := by rw [← h0l] at l6 ⊢; exact l6
    walk_at "rd"
    refine r_ixN (sq_same g6 hp) rfl ?_
    walk_at "rd"
    refine cat_octal (n := s) (k := 12) l6 (by rw [List.length_append, List.length_append, List.length_append, fldT_len, fldO_len (by decide) hm, fldO_len (n := 0) (by decide) (by decide)]; omega) (by decide) (by decide) (by omega) fun p7 H7 hp7 e7 l7 => ?_
    have g7 := same_trans g6 e7
    have l7 : LN H7 p7 (fldT z ++ fldO m 7 ++ fldO 0 7 ++ fldO 0 7 ++ fldO s 11) := by rw [← hsl]; exact l7
    walk_at "rd"
    refine r_ixN (sq_same g7 hp) rfl ?_
    walk_at "rd"
    refine cat_octal (n := t) (k := 12) l7 (by simp only [List.length_append, fldT_len, fldO_len (show 1 ≤ 7 by decide) hm, fldO_len (show 1 ≤ 7 by decide) (show 0 < 8 ^ 7 by decide), fldO_len (show 1 ≤ 11 by decide) hs]; omega) (by decide) (by decide) (by omega) fun p8 H8 hp8 e8 l8 => ?_
    have g8 := same_trans g7 e8
    have l8 : LN H8 p8 (FR z m s t) := by unfold FR; rw [← htl]; exact l8
    walk_at "rd"
    refine sp_codes (by omega) fun p1 H1 hp1 e1 hl1 => ?_
    have g1 := same_trans g8 e1
    have l8 := l8.same e1
    walk_at "rd"
    refine sp_codes ha fun p2 H2 hp2 e2 hl2 => ?_
    have g2 := same_trans g1 e2
    have l8 := l8.same e2
    have hl1 := e2 _ _ hl1
    walk_at "rd"
    rename_i q1 hq1 q2 hq2
    have n100 : LN (upd (upd H2 q1 (.lst [.int 0])) q2 (.lst (List.replicate (Int.toNat 100) [V.int 0]).flatten)) q2 (List.replicate 100 0) := by unfold LN; rw [upd_same]; rfl
    have s2 : Same H2 (upd (upd H2 q1 (.lst [.int 0])) q2 (.lst (List.replicate (Int.toNat 100) [V.int 0]).flatten)) := same_upd (same_upd (Same.refl _) hq1) hq2
    refine catN (xs := a.cps.toList) (ys := List.replicate 100 0) (s2 _ _ hl2) n100 (by rw [List.length_replicate]; omega) fun p9 H9 hp9 e9 l9 => ?_
    have g9 := same_trans g2 (same_trans s2 e9)
    have l8 := (l8.same s2).same e9
    have hl1 := e9 _ _ (s2 _ _ hl1)
    walk_at "rd"
    rename_i pa hpa
    have la : LN (upd H9 pa (.lst (cutV (List.map V.int (nL (a.cps.toList ++ List.replicate 100 0))) none (some 100)))) pa (fldT a) := by
      unfold LN
      rw [upd_same, cut100, fld_law]
    have sa : Same H9 (upd H9 pa (.lst (cutV (List.map V.int (nL (a.cps.toList ++ List.replicate 100 0))) none (some 100)))) := same_upd (Same.refl _) hpa
    have ga := same_trans g9 sa
    have l8 := l8.same sa
    have hl1 : LN _ p1 l.cps.toList := sa _ _ hl1
    generalize upd H9 pa (.lst (cutV (List.map V.int (nL (a.cps.toList ++ List.replicate 100 0))) none (some 100))) = Ha at *
    have hl' : l.cps.toList.length = 1 := by simpa [Str.length] using hl
    refine catN hl1 la (by rw [hl', fldT_len]; omega) fun pb Hb hpb eb lb => ?_
    have gb := same_trans ga eb
    have l8 := l8.same eb
    walk_at "rd"
    refine cat_codes (z := "ustar") lb (by rw [List.length_append, hl', fldT_len]; omega) (by decide +kernel) fun pc Hc hpc ec lc => ?_
    have gc := same_trans gb ec
    have l8 := l8.same ec
    walk_at "rd"
    rename_i pd hpd
    have ld : LN (upd Hc pd (.lst [.int 0, .int 48, .int 48])) pd [0, 48, 48] := by unfold LN; rw [upd_same]; rfl
    have sd : Same Hc (upd Hc pd (.lst [.int 0, .int 48, .int 48])) := same_upd (Same.refl _) hpd
    have hu5 : (Str.ofString "ustar").cps.toList = [117, 115, 116, 97, 114] := by decide +kernel
    rw [hu5] at lc
    refine catN (lc.same sd) ld (by simp only [List.length_append, hl', fldT_len]; decide) fun pe He hpe ee le => ?_
    have ge := same_trans gc (same_trans sd ee)
    have l8 := (l8.same sd).same ee
    walk_at "rd"
    rename_i q3 hq3 q4 hq4
    have n247 : LN (upd (upd He q3 (.lst [.int 0])) q4 (.lst (List.replicate (Int.toNat 247) [V.int 0]).flatten)) q4 (List.replicate 247 0) := by unfold LN; rw [upd_same]; rfl
    have s4 : Same He (upd (upd He q3 (.lst [.int 0])) q4 (.lst (List.replicate (Int.toNat 247) [V.int 0]).flatten)) := same_upd (same_upd (Same.refl _) hq3) hq4
    refine catN (le.same s4) n247 (by simp only [List.length_append, hl', fldT_len, List.length_replicate]; decide) fun pf Hf hpf ef lf => ?_
    have gf := same_trans ge (same_trans s4 ef)
    have l8 := (l8.same s4).same ef
    have lf : LN Hf pf (BK l a) := lf
    walk_at "rd"
    refine sumN l8 ?_
    walk_at "rd"
    refine sumN lf ?_
    walk_at "rd"
    have hsm := SM_lt (m := m) (s := s) (t := t) hl' hla hza haa hm hs ht
    rw [show (((FR z m s t).sum : Nat) : Int) + (((BK l a).sum : Nat) : Int) + 256 = ((SM l z a m s t : Nat) : Int) from by unfold SM; omega]
    refine cat_octal (n := SM l z a m s t) (k := 7) l8 (by rw [FR_len hm hs ht]; omega) (by decide) (by decide) (by omega) fun pg Hg hpg eg lg => ?_
    have gg := same_trans gf eg
    have lf := lf.same eg
    walk_at "rd"
    rename_i q5 hq5
    have l32 : LN (upd Hg q5 (.lst [.int 32])) q5 [32] := by unfold LN; rw [upd_same]; rfl
    have s5 : Same Hg (upd Hg q5 (.lst [.int 32])) := same_upd (Same.refl _) hq5
    have hsl6 : (digsL (SM l z a m s t) 7) = fldO (SM l z a m s t) 6 := digsL_eq (by decide) hsm
    have lg : LN Hg pg (FR z m s t ++ fldO (SM l z a m s t) 6) := by rw [← hsl6]; exact lg
    refine catN (lg.same s5) l32 (by rw [List.length_append, FR_len hm hs ht, fldO_len (by decide) hsm]; decide) fun ph Hh hph eh lh => ?_
    have gh := same_trans gg (same_trans s5 eh)
    have lf := (lf.same s5).same eh
    walk_at "rd"
    refine catN lh lf (by simp only [List.length_append, FR_len hm hs ht, fldO_len (show 1 ≤ 6 by decide) hsm, BK_len hl']; decide) fun pi Hi hpi ei li => ?_
    exact q pi Hi (none_same gh hpi) (same_trans gh ei) li
end
end Th
namespace Th
open PySem PySem.Spec PyProof.Rows L2
local macro_rules | `(tactic| walk_at "lk") => `(tactic| first
  | assumption
  | exact upd_same
  | (refine upd_old (by assumption) ?_; walk_at "lk")
  | (refine upd_diff (by assumption) ?_; walk_at "lk")
  | (refine upd_diff (Ne.symm (by assumption)) ?_; walk_at "lk"))
local macro_rules | `(tactic| walk_at "cnd") => `(tactic| first
  | omega
  | (refine ⟨by omega, by omega⟩)
  | (refine ⟨by omega, by omega, by omega⟩)
  | (refine .inl ⟨by omega, by omega⟩)
  | (refine .inr ⟨by omega, by omega⟩)
  | (exact (show CPow _ _ from ⟨by decide, by decide, by omega⟩))
  | decide +kernel
  | (unfold CMulW; decide +kernel)
  | (exact wide_div (b := 64) (by omega) (by omega) (by decide) (by decide)))
local macro_rules | `(tactic| walk_at "rd1") => `(tactic| first
  | (with_reducible refine r_seq ?_)
  | (with_reducible refine r_asg ?_)
  | (with_reducible refine r_ret ?_)
  | (with_reducible refine r_if ?_)
  | (with_reducible refine r_gname ?_)
  | ((with_reducible refine' r_var ?hv ?_); (case hv => exact rfl))
  | (with_reducible refine r_c ?_)
  | (with_reducible refine r_op ?_)
  | (with_reducible refine r_I0 ?_)
  | ((with_reducible refine r_I ?hc ?_); (case hc => walk_at "cnd"))
  | (with_reducible refine r_test ?_)
  | (with_reducible refine r_tB ?_)
  | (with_reducible refine r_bl ?_)
  | (with_reducible refine r_not ?_)
  | (with_reducible refine r_and ?_)
  | (with_reducible refine r_or ?_)
  | (with_reducible refine r_ifE ?_)
  | (with_reducible refine r_notV ?_)
  | (with_reducible refine r_andV ?_)
  | (with_reducible refine r_orV ?_)
  | (with_reducible refine r_chain ?_)
  | (with_reducible refine r_cb ?_)
  | (with_reducible refine r_call ?_)
  | (with_reducible refine r_callN ?_)
  | (with_reducible refine r_nil ?_)
  | (with_reducible refine r_cons ?_)
  | ((with_reducible refine r_lst ?_))
  | ((with_reducible refine r_tup ?_))
  | ((with_reducible refine r_new ?_ ?_); (exact Nat.le_of_ble_eq_true rfl); (intro p hp))
  | (with_reducible refine r_rInt1 ?_)
  | (with_reducible refine r_rIntB ?_)
  | (with_reducible refine r_rAbs ?_)
  | (with_reducible refine r_rMin2 ?_)
  | (with_reducible refine r_rMax2 ?_)
  | ((with_reducible refine r_rLenZ ?hz ?_); (case hz => first | assumption | exact Nat.le_of_ble_eq_true rfl | (refine Nat.le_trans ?_ (by decide : 100000 ≤ sizeLine); omega)))
  | ((with_reducible refine r_addZ ?hz ?_); (case hz => (refine Nat.le_trans ?_ (by decide : 100000 ≤ sizeLine); first | omega | (simp only [Str.length] at *; simp; omega))))
  | ((with_reducible refine r_mulZ ?hz ?h0 ?h1 ?_); (case hz => first | omega | exact Nat.le_of_ble_eq_true rfl); (case h0 => omega); (case h1 => omega))
  | ((with_reducible refine' r_rLenQ ?h1 ?_); (case h1 => first | (exact .inl (by assumption)) | (exact .inr (by assumption)) | (exact .inl (SqL.of (by walk_at "lk"))) | (exact .inr (SqT.of (by walk_at "lk")))))
  | ((with_reducible refine r_eq ?hs ?_); (case hs => exact rfl))
  | ((with_reducible refine r_ne ?hs ?_); (case hs => exact rfl))
  | (with_reducible refine r_inC ?_)
  | ((with_reducible refine' r_cat ?h1 ?h2 ?h3 ?_); (case h1 => walk_at "lk"); (case h2 => walk_at "lk"); (case h3 => exact Nat.le_of_ble_eq_true rfl); (intro p hp))
  | ((with_reducible refine' r_rep ?h1 ?h2 ?h3 ?h4 ?_); (case h1 => walk_at "lk"); (case h2 => omega); (case h3 => omega); (case h4 => exact Nat.le_of_ble_eq_true rfl); (intro p hp))
  | ((with_reducible refine' r_append ?h1 ?h2 ?_); (case h1 => walk_at "lk"); (case h2 => first | exact (show _ + 1 ≤ sizeLine from Nat.le_of_ble_eq_true rfl) | exact Nat.lt_of_le_of_lt (by omega : _ ≤ 100000) (by decide)))
  | (with_reducible refine r_bm ?_)
  | ((with_reducible refine' r_tyL ?h1 ?_); (case h1 => walk_at "lk"))
  | ((with_reducible refine' r_ixL ?h1 ?h2 ?_); (case h1 => first | assumption | exact SqL.of (by walk_at "lk")); (case h2 => exact rfl))
  | ((with_reducible refine' r_ixT ?h1 ?h2 ?_); (case h1 => first | assumption | exact SqT.of (by walk_at "lk")); (case h2 => exact rfl))
  | (with_reducible refine r_gsub ?_)
  | ((with_reducible refine' r_setL ?h1 ?h2 ?_); (case h1 => walk_at "lk"); (case h2 => exact rfl))
  | (with_reducible refine r_un ?_)
  | (with_reducible refine r_neg ?_)
  | (with_reducible refine r_iteT ?_)
  | (with_reducible refine r_iteNT ?_)
  | (with_reducible refine r_iteNF ?_)
  | (with_reducible refine r_iteF ?_)
  | (with_reducible refine r_next ?_)
  | (with_reducible refine r_drop ?_)
  | (with_reducible refine r_cont ?_)
  | (with_reducible refine r_brk ?_))
local macro_rules | `(tactic| walk_at "ty") => `(tactic| first
  | assumption
  | exact .base (.int _)
  | exact .base (.str _)
  | exact .base (.bl _)
  | exact .base .non
  | exact .byt _
  | exact .base (.lst (by walk_at "lk"))
  | exact .base (.tup (by walk_at "lk")))
local macro_rules | `(tactic| walk_at "rd2") => `(tactic| first
  | walk_at "rd1"
  | ((with_reducible refine' r_isi true ?ht ?hk ?_); (case ht => walk_at "ty"); (case hk => first | assumption | decide +kernel))
  | ((with_reducible refine' r_isi false ?ht ?hk ?_); (case ht => walk_at "ty"); (case hk => first | assumption | decide +kernel))
  | ((with_reducible refine' r_isiT2 true true ?hT ?ht ?hk ?hk2 ?_); (case hT => walk_at "lk"); (case ht => walk_at "ty"); (case hk => decide +kernel); (case hk2 => decide +kernel))
  | ((with_reducible refine' r_isiT2 true false ?hT ?ht ?hk ?hk2 ?_); (case hT => walk_at "lk"); (case ht => walk_at "ty"); (case hk => decide +kernel); (case hk2 => decide +kernel))
  | ((with_reducible refine' r_isiT2 false true ?hT ?ht ?hk ?hk2 ?_); (case hT => walk_at "lk"); (case ht => walk_at "ty"); (case hk => decide +kernel); (case hk2 => decide +kernel))
  | ((with_reducible refine' r_isiT2 false false ?hT ?ht ?hk ?hk2 ?_); (case hT => walk_at "lk"); (case ht => walk_at "ty"); (case hk => decide +kernel); (case hk2 => decide +kernel))
  | (with_reducible refine r_iteNT ?_)
  | ((show (if (!true) = true then _ else _)); refine r_iteNT ?_)
  | (with_reducible refine r_r1 ?_)
  | (with_reducible refine r_maks ?_)
  | (with_reducible refine r_sfld ?_)
  | ((with_reducible refine' r_sfldE ?h1 ?h2 ?h3 ?h4 ?_); (case h1 => walk_at "lk"); (case h2 => assumption); (case h3 => assumption); (case h4 => exact (show _ + 1 ≤ 1000 from Nat.le_of_ble_eq_true rfl)))
  | (with_reducible refine r_fld ?_)
  | (with_reducible refine r_join ?_)
  | (with_reducible refine r_jcons ?_)
  | (with_reducible refine r_jnil ?_)
  | ((with_reducible refine r_rLenY ?hz ?_); (case hz => first | assumption | (refine Nat.le_trans ?_ (by decide : 100000 ≤ sizeLine); omega)))
  | (with_reducible refine r_par ?_)
  | (with_reducible refine r_pair ?_)
  | (with_reducible refine r_par3 ?_)
  | (with_reducible refine r_trip ?_)
  | ((with_reducible refine' r_gtup ?h1 ?h2 ?_); (case h1 => first | assumption | exact SqT.of (by walk_at "lk")); (case h2 => exact rfl))
  | (with_reducible refine r_gcons ?_)
  | (with_reducible refine r_gnil ?_)
  | ((with_reducible refine' r_slL ?h1 ?_); (case h1 => first | assumption | exact SqL.of (by walk_at "lk")); (intro p hp))
  | (with_reducible refine r_iTup ?_)
  | ((with_reducible refine' r_tupE ?h1 ?_); (case h1 => first | assumption | exact SqT.of (by walk_at "lk")))
  | (with_reducible refine r_m1 ?_)
  | (with_reducible refine r_isZ ?_)
  | (with_reducible refine r_sl ?_)
  | (with_reducible refine r_noPart ?_)
  | (with_reducible refine r_part ?_)
  | (with_reducible refine r_partE ?_)
  | ((with_reducible refine r_slS ?hz ?_); (case hz => first | assumption | (refine Nat.le_trans ?_ (by decide : 100000 ≤ sizeLine); omega)))
  | ((with_reducible refine' r_inT ?h1 ?h2 ?h3 ?_); (case h1 => first | assumption | (exact SqT.of (by walk_at "lk"))); (case h2 => exact rfl); (case h3 => exact rfl))
  | ((with_reducible refine' r_inL ?h1 ?h2 ?h3 ?_); (case h1 => first | assumption | (exact SqL.of (by walk_at "lk"))); (case h2 => exact rfl); (case h3 => exact rfl))
  | (with_reducible refine r_lc ?_)
  | (with_reducible refine r_for ?_)
  | (with_reducible refine r_iStr ?_)
  | (with_reducible refine r_strE ?_)
  | (with_reducible refine r_iList ?_)
  | ((with_reducible refine' r_listE ?h1 ?_); (case h1 => first | assumption | exact SqL.of (by walk_at "lk")))
  | (with_reducible refine r_iRng1 ?_)
  | ((with_reducible refine' r_rngE ?h0 ?h1 ?_); (case h0 => first | omega | (split <;> omega)); (case h1 => first | omega | (split <;> omega))))
local macro_rules | `(tactic| walk_at "rd") => `(tactic| (repeat walk_at "rd2"))
local macro_rules | `(tactic| walk_at "st") => `(tactic| (repeat (first
  | (with_reducible refine r_gname ?_)
  | (with_reducible refine r_next ?_)
  | (with_reducible refine r_seq ?_)
  | (with_reducible refine r_asg ?_)
  | (with_reducible refine r_ret ?_)
  | (with_reducible refine r_for ?_)
  | (with_reducible refine r_iRng1 ?_)
  | (with_reducible refine r_iList ?_)
  | (with_reducible refine r_cons ?_)
  | (with_reducible refine r_par ?_)
  | (with_reducible refine r_par3 ?_))))
/-! ### the program's checksum and header -/
/-- all the bytes of a list of bytes, one after another -/
def flatB (bs : List (Array UInt8)) : List UInt8 := (bs.map Array.toList).flatten
theorem flatB_snoc (bs : List (Array UInt8)) (y : Array UInt8) : flatB (bs ++ [y]) = flatB bs ++ y.toList := by
  unfold flatB
  simp
theorem fold_join : ∀ (l : List (Array UInt8 × Nat)) (acc : Array UInt8), (l.foldl (fun out (p : Array UInt8 × Nat) => (if p.2 > 0 then out ++ (#[] : Array UInt8) else out) ++ p.1) acc).toList = acc.toList ++ ((l.map Prod.fst).map Array.toList).flatten
  | [], acc => by simp
  | (p, i) :: r, acc => by
    rw [List.foldl_cons, fold_join r]
    by_cases h : i > 0
    · simp [h]
    · simp [h]
theorem joined_flat (bs : List (Array UInt8)) : (Builtin.Bytes.joined #[] bs).toList = flatB bs := by
  unfold Builtin.Bytes.joined
  have h := fold_join bs.zipIdx #[]
  rw [List.zipIdx_map_fst] at h
  exact h
theorem fold_size : ∀ (bs : List (Array UInt8)) (n : Nat), bs.foldl (· + ·.size) n = n + (flatB bs).length
  | [], n => by simp [flatB]
  | b :: r, n => by
    rw [List.foldl_cons, fold_size r]
    simp [flatB, Nat.add_assoc]
def rJoinOk (K : PySem.W.Frag) : Prop := True
theorem r_bjoin {K : PySem.W.Frag} {p : Addr} {bs : List (Array UInt8)} {H : Hp} {Q : VK} (hp : H p = some (.lst (bs.map V.byt))) (hz : (flatB bs).length ≤ 16777216) (h : Q (.byt (flatB bs).toArray) H) : rBjoin K (.byt #[]) [.ref p] H Q := by
  have e : Builtin.Bytes.joined #[] bs = (flatB bs).toArray := by
    apply Array.ext'
    rw [joined_flat]
  refine ⟨#[], p, bs, rfl, rfl, SqL.of hp, ?_, ?_, ?_⟩
  · rw [← Array.foldl_toList, fold_size]
    unfold Builtin.Bytes.tooLong
    rw [sizeLine_eq]
    exact decide_eq_false (by simp; omega)
  · rw [e, sizeLine_eq, List.size_toArray]
    exact hz
  · rw [e]
    exact h
def rSlY : V → Option Int → Option Int → Hp → VK → Prop := rSlB
theorem sl_Y {X : Cx} : SlR X rSlY := sl_byt
theorem r_slTo {xs : List Nat} {n : Nat} {H : Hp} {Q : VK} (hn : n ≤ xs.length) (hz : xs.length ≤ 100000) (h : Q (.byt (Bt.byOf (xs.take n))) H) : rSlY (.byt (Bt.byOf xs)) none (some (n : Int)) H Q := by
  refine ⟨_, rfl, by rw [byOf_size]; omega, ?_⟩
  unfold Bt.byOf
  rw [L2.pk_to (by rw [List.length_map]; exact hn), ← List.map_take]
  exact h
theorem r_slFrom {xs : List Nat} {n : Nat} {H : Hp} {Q : VK} (hn : n ≤ xs.length) (hz : xs.length ≤ 100000) (h : Q (.byt (Bt.byOf (xs.drop n))) H) : rSlY (.byt (Bt.byOf xs)) (some (n : Int)) none H Q := by
  refine ⟨_, rfl, by rw [byOf_size]; omega, ?_⟩
  unfold Bt.byOf
  rw [L2.pk_from (by rw [List.length_map]; exact hn), ← List.map_drop]
  exact h
def rSumB : List V → Hp → VK → Prop := fun vs H Q => ∃ b : List UInt8, vs = [.byt b.toArray] ∧ Q (.int (Bt.nums b).sum) H
theorem call_sumB {X : Cx} (hc : X.calm = true := by rfl) : CallR X (.builtin "sum") rSumB := Bt.cr_sumB hc
theorem nums_by {xs : List Nat} (h : ∀ x ∈ xs, x < 256) : Bt.nums (xs.map Nat.toUInt8) = nL xs := by
  unfold Bt.nums nL
  rw [List.map_map]
  refine List.map_congr_left fun c hc => ?_
  have e : c.toUInt8.toNat = c := by
    have h1 := h c hc
    show c % 256 = c
    omega
  show ((c.toUInt8.toNat : Nat) : Int) = c
  rw [e]
theorem r_sumB {xs : List Nat} {H : Hp} {Q : VK} (h : ∀ x ∈ xs, x < 256) (q : Q (.int ((xs.sum : Nat) : Int)) H) : rSumB [.byt (Bt.byOf xs)] H Q := by
  refine ⟨_, rfl, ?_⟩
  rw [nums_by h, nL_sum]
  exact q
def rMulB : R2 := fun x y H Q => ∃ (b : List UInt8) (n : Int), x = .byt b.toArray ∧ y = .int n ∧ (b ≠ [] ∧ -1048576 ≤ n ∧ n ≤ 1048576 ∧ b.length ≤ 16) ∧ Q (.byt ((List.replicate n.toNat b).flatten).toArray) H
theorem op_mulB {X : Cx} : OpR X (binaryOp .Mult) rMulB := Bt.op_mulB
/-- the sum of a block, eight spaces for the field itself -/
def CS (xs : List Nat) : Nat := (xs.take 148).sum + 256 + (xs.drop 156).sum
section
variable {P : Program} {w : World} {K : PySem.W.Frag} {mg : Str → Option Value} {base : Heap}
def spCheck : Sp := fun vs H Q _ => ∃ xs : List Nat, vs = [.byt (Bt.byOf xs)] ∧ xs.length = 512 ∧ (∀ x ∈ xs, x < 256) ∧ Q (.int ((CS xs : Nat) : Int)) H
theorem sp_check {xs : List Nat} {H : Hp} {Q : VK} {E : XK} (hl : xs.length = 512) (hx : ∀ x ∈ xs, x < 256) (q : Q (.int ((CS xs : Nat) : Int)) H) : spCheck ([.byt (Bt.byOf xs)] ++ []) H Q E := ⟨xs, rfl, hl, hx, q⟩
theorem ok_check {f : Addr} {fd : FuncData} {k : Nat} {t1 : Tok} (F : Fun K "checksum" "checksum" s_checksum f fd) (m1 : mg "sum" = none) (m2 : mg "len" = none) (m3 : mg "isinstance" = none) (m4 : mg "bytes" = none) (m_BS : mg "BLOCK_SIZE" = some (.int 512 t1)) :
    FnOk P w K mg base CX0 (k + 2) f fd ["block"] spCheck := by
  refine F.ok sc_checksum (fun vs H Q E h => ?_) (fun cdv A outer s H vs Q E hr h => ?_)
  · obtain ⟨xs, rfl, _⟩ := h
    rfl
  · obtain ⟨xs, rfl, hl, hx, q⟩ := h
    have hu := hu_of hr
    have nd := sc_checksum.nd
    have hsz : (Bt.byOf xs).size = 512 := by rw [byOf_size, hl]
    refine ⟨_, (pss_cons (ps_if (PW.pt (pw_or (pt_not (pt_val (pe_callB (call_isiK1 K) (by rfl) (by assumption) (by decide +kernel) (pa_cons (pv 0) (pa_cons (pe_bltn (v := .ty "bytes") (by rfl) (by assumption) (by decide +kernel) rfl) pa_nil))))) (pw_or1 (pt_cmpR op_ne (pe_callB call_rLenY (by rfl) (by assumption) (by decide +kernel) (pa_cons (pv 0) pa_nil)) (pe_glob (v := .int 512) (by rfl) m_BS (by first | exact rfl | exact ⟨_, rfl⟩)) (nomark _)))))
        (pss_one ps_never)
        pss_nil)
      (pss_one (ps_ret (pe_op op_add (pe_op op_add (pe_callB call_sumB (by rfl) (by assumption) (by decide +kernel) (pa_cons (pe_slice sl_Y (pv 0) po_none (po_some pe_int)) pa_nil)) (pe_callB call_sumB (by rfl) (by assumption) (by decide +kernel) (pa_cons (pe_op op_mulB pe_byt pe_int) pa_nil))) (pe_callB call_sumB (by rfl) (by assumption) (by decide +kernel) (pa_cons (pe_slice sl_Y (pv 0) (po_some pe_int) po_none) pa_nil)))))), ?_⟩
    walk_at "rd"
    rw [hsz, show decide (V.int ((512 : Nat) : Int) = V.int 512) = true from decide_eq_true rfl]
    walk_at "rd"
    refine r_slTo (n := 148) (by omega) (by omega) ?_
    walk_at "rd"
    refine r_sumB (fun x h => hx x (List.mem_of_mem_take h)) ?_
    walk_at "rd"
    refine ⟨[32], 8, rfl, rfl, ⟨by simp, by decide, by decide, by decide⟩, ?_⟩
    walk_at "rd"
    rw [show ((List.replicate (8 : Int).toNat [(32 : UInt8)]).flatten).toArray = Bt.byOf (List.replicate 8 32) from rfl]
    refine r_sumB (fun x h => by have := List.eq_of_mem_replicate h; omega) ?_
    walk_at "rd"
    refine r_slFrom (n := 156) (by omega) (by omega) ?_
    walk_at "rd"
    refine r_sumB (fun x h => hx x (List.mem_of_mem_drop h)) ?_
    walk_at "rd"
    unfold CS at q
    simpa using q
theorem sum_le2 : ∀ (xs : List Nat), (∀ x ∈ xs, x < 256) → xs.sum ≤ 255 * xs.length
  | [], _ => by simp
  | x :: xs, h => by
    have h1 := h x (.head _)
    have h2 := sum_le2 xs fun y hy => h y (.tail _ hy)
    rw [List.sum_cons, List.length_cons]
    omega
theorem CS_lt {xs : List Nat} (hl : xs.length = 512) (hx : ∀ x ∈ xs, x < 256) : CS xs < 8 ^ 6 := by
  have h1 := sum_le2 (xs.take 148) (fun x h => hx x (List.mem_of_mem_take h))
  have h2 := sum_le2 (xs.drop 156) (fun x h => hx x (List.mem_of_mem_drop h))
  rw [List.length_take] at h1
  rw [List.length_drop] at h2
  unfold CS
  omega
def spCField : Sp := fun vs H Q _ => ∃ xs : List Nat, vs = [.byt (Bt.byOf xs)] ∧ xs.length = 512 ∧ (∀ x ∈ xs, x < 256) ∧ Q (.byt (Bt.byOf (fldO (CS xs) 6 ++ [32]))) H
theorem sp_cfield {xs : List Nat} {H : Hp} {Q : VK} {E : XK} (hl : xs.length = 512) (hx : ∀ x ∈ xs, x < 256) (q : Q (.byt (Bt.byOf (fldO (CS xs) 6 ++ [32]))) H) : spCField ([.byt (Bt.byOf xs)] ++ []) H Q E := ⟨xs, rfl, hl, hx, q⟩
theorem ok_cfield {f : Addr} {fd : FuncData} {k : Nat} (F : Fun K "checksum_field" "checksum_field" s_checksum_field f fd) (c_checksum : CalT P w K mg base 2 "checksum" spCheck) : FnOk P w K mg base CX0 (k + 3) f fd ["block"] spCField := by
  refine F.ok sc_checksum_field (fun vs H Q E h => ?_) (fun cdv A outer s H vs Q E hr h => ?_)
  · obtain ⟨xs, rfl, _⟩ := h
    rfl
  · obtain ⟨xs, rfl, hl, hx, q⟩ := h
    have hu := hu_of hr
    have nd := sc_checksum_field.nd
    have hc := CS_lt hl hx
    refine ⟨_, (pss_one (ps_ret (pe_op op_addY (pe_bm PySem.F.plainAttrs_str PySem.F.slot_str_encode PySem.F.type_str_encode mt_encN (pe_joined1 (Bt.pe_06o (pe_cc c_checksum hr (by omega) (by rfl) (pa_cons (pv 0) pa_nil)) (pe_joined1 pe_str))) (pa_cons pe_str pa_nil)) pe_byt))), ?_⟩
    walk_at "rd"
    refine r_fmtO ?_
    walk_at "rd"
    refine sp_check hl hx ?_
    refine ⟨CS xs, rfl, by omega, ?_⟩
    refine ⟨rfl, ?_⟩
    walk_at "rd"
    refine r_enc (Bt.asc_oct (CS xs) 6) (by simp [PySem.Str.length]; rw [Bt.octP_length (by decide) hc]; decide) ?_
    rw [show (⟨(Bt.octP (CS xs) 6).toArray⟩ : Str).cps.toList = Bt.octP (CS xs) 6 from by simp]
    walk_at "rd"
    rw [show (#[0, 32] : Array UInt8) = Bt.byOf [0, 32] from rfl]
    refine r_addY (by rw [byOf_size, byOf_size, Bt.octP_length (by decide) hc]; decide) ?_
    rw [byOf_app]
    have e : Bt.octP (CS xs) 6 ++ [0, 32] = fldO (CS xs) 6 ++ [32] := by unfold fldO; rw [List.append_assoc]; rfl
    rw [e]
    exact q
theorem flat_FR {z : Str} {m s t : Nat} : flatB [Bt.byOf (fldT z), Bt.byOf (fldO m 7), Bt.byOf (fldO 0 7), Bt.byOf (fldO 0 7), Bt.byOf (fldO s 11), Bt.byOf (fldO t 11)] = (FR z m s t).map Nat.toUInt8 := by
  unfold flatB FR Bt.byOf
  simp only [List.map_cons, List.map_nil, List.flatten_cons, List.flatten_nil, List.append_nil, List.map_append, List.append_assoc]
theorem flat_BK {l a : Str} : flatB [Bt.byOf l.cps.toList, Bt.byOf (fldT a), #[117, 115, 116, 97, 114, 0, 48, 48], Array.replicate (247 : Int).toNat 0] = (BK l a).map Nat.toUInt8 := by
  unfold flatB BK Bt.byOf
  simp only [List.map_cons, List.map_nil, List.flatten_cons, List.flatten_nil, List.append_nil, List.map_append, List.append_assoc]
  rfl
theorem CS_SM {l z a : Str} {m s t : Nat} (hl : l.cps.toList.length = 1) (hm : m < 8 ^ 7) (hs : s < 8 ^ 11) (ht : t < 8 ^ 11) : CS (FR z m s t ++ List.replicate 8 0 ++ BK l a) = SM l z a m s t := by
  have h1 : (FR z m s t ++ List.replicate 8 0 ++ BK l a).take 148 = FR z m s t := by
    rw [List.append_assoc, List.take_append_of_le_length (by rw [FR_len hm hs ht]; omega), List.take_of_length_le (by rw [FR_len hm hs ht]; omega)]
  have h2 : (FR z m s t ++ List.replicate 8 0 ++ BK l a).drop 156 = BK l a := by
    have e : (FR z m s t ++ List.replicate 8 0).length = 156 := by rw [List.length_append, FR_len hm hs ht]; rfl
    rw [← e, List.drop_left]
  unfold CS SM
  rw [h1, h2]
  omega
def spHeader : Sp := fun vs H Q _ => ∃ (l z a : Str) (m s t : Nat), vs = [.str l, .str z, .int (m : Int), .int (s : Int), .int (t : Int), .str a] ∧
  l.length = 1 ∧ z.length ≤ 1000 ∧ a.length ≤ 1000 ∧ PySem.W.KSb.Asc l ∧ PySem.W.KSb.Asc z ∧ PySem.W.KSb.Asc a ∧ m < 8 ^ 7 ∧ s < 8 ^ 11 ∧ t < 8 ^ 11 ∧ ∀ H', Same H H' → Q (.byt (Bt.byOf (HD l z a m s t))) H'
theorem ok_header {f : Addr} {fd : FuncData} {k : Nat} {t1 t2 : Tok} (F : Fun K "header" "header" s_header f fd) (c_cfield : CalT P w K mg base 3 "checksum_field" spCField) (c_tfield : CalT P w K mg base 2 "text_field" spTField) (c_ofield : CalT P w K mg base 2 "octal_field" spOField)
    (m1 : mg "bytes" = none) (m_MG : mg "MAGIC" = some (.bytes #[117, 115, 116, 97, 114, 0, 48, 48] t2)) (m_RS : mg "REST_SIZE" = some (.int 247 t1)) : FnOk P w K mg base CX0 (k + 4) f fd ["kind", "name", "mode", "size", "time", "target"] spHeader := by
  refine F.ok sc_header (fun vs H Q E h => ?_) (fun cdv A outer s H vs Q E hr h => ?_)
  · obtain ⟨l, z, a, m, s, t, rfl, _⟩ := h
    rfl
  · obtain ⟨l, z, a, m, s, t, rfl, hl, hz, ha, hla, hza, haa, hm, hs, ht, q⟩ := h
    have hu := hu_of hr
    have nd := sc_header.nd
    refine ⟨_, (pss_cons (ps_set (i := 6) nd rfl (Or.inl rfl) (pe_bmB PySem.W.FB.plainAttrs_bytes R59.slot_bjoin R59.type_bjoin mt_bjoin pe_byt (pa_cons (pe_lst (pa_cons (pe_cc c_tfield hr (by omega) (by rfl) (pa_cons (pv 1) pa_nil)) (pa_cons (pe_cc c_ofield hr (by omega) (by rfl) (pa_cons (pv 2) (pa_cons pe_int pa_nil))) (pa_cons (pe_cc c_ofield hr (by omega) (by rfl) (pa_cons pe_int (pa_cons pe_int pa_nil))) (pa_cons (pe_cc c_ofield hr (by omega) (by rfl) (pa_cons pe_int (pa_cons pe_int pa_nil))) (pa_cons (pe_cc c_ofield hr (by omega) (by rfl) (pa_cons (pv 3) (pa_cons pe_int pa_nil))) (pa_cons (pe_cc c_ofield hr (by omega) (by rfl) (pa_cons (pv 4) (pa_cons pe_int pa_nil))) pa_nil))))))) pa_nil)))
      (pss_cons (ps_set (i := 7) nd rfl (Or.inl rfl) (pe_bmB PySem.W.FB.plainAttrs_bytes R59.slot_bjoin R59.type_bjoin mt_bjoin pe_byt (pa_cons (pe_lst (pa_cons (pe_bm PySem.F.plainAttrs_str PySem.F.slot_str_encode PySem.F.type_str_encode mt_encN (pv 0) (pa_cons pe_str pa_nil)) (pa_cons (pe_cc c_tfield hr (by omega) (by rfl) (pa_cons (pv 5) pa_nil)) (pa_cons (pe_glob (v := .byt #[117, 115, 116, 97, 114, 0, 48, 48]) (by rfl) m_MG (by first | exact rfl | exact ⟨_, rfl⟩)) (pa_cons (pe_callTy call_bytesN (by rfl) (by assumption) (by decide +kernel) (pa_cons (pe_glob (v := .int 247) (by rfl) m_RS (by first | exact rfl | exact ⟨_, rfl⟩)) pa_nil)) pa_nil))))) pa_nil)))
      (pss_one (ps_ret (pe_op op_addY (pe_op op_addY (pv 6) (pe_cc c_cfield hr (by omega) (by rfl) (pa_cons (pe_op op_addY (pe_op op_addY (pv 6) (pe_callTy call_bytesN (by rfl) (by assumption) (by decide +kernel) (pa_cons pe_int pa_nil))) (pv 7)) pa_nil))) (pv 7)))))), ?_⟩
    have hl' : l.cps.toList.length = 1 := by simpa [Str.length] using hl
    have hsm := SM_lt (m := m) (s := s) (t := t) hl' hla hza haa hm hs ht
    walk_at "rd"
    refine r_bmB ?_
    refine ⟨_, rfl, ?_⟩
    walk_at "rd"
    refine sp_tfield hza hz ?_
    walk_at "rd"
    refine sp_ofield (n := m) (k := 8) (by decide) (by decide) hm ?_
    walk_at "rd"
    refine sp_ofield (n := 0) (k := 8) (by decide) (by decide) (by decide) ?_
    walk_at "rd"
    refine sp_ofield (n := 0) (k := 8) (by decide) (by decide) (by decide) ?_
    walk_at "rd"
    refine sp_ofield (n := s) (k := 12) (by decide) (by decide) hs ?_
    walk_at "rd"
    refine sp_ofield (n := t) (k := 12) (by decide) (by decide) ht ?_
    walk_at "rd"
    rename_i p1 hp1
    refine r_bjoin (bs := [Bt.byOf (fldT z), Bt.byOf (fldO m 7), Bt.byOf (fldO 0 7), Bt.byOf (fldO 0 7), Bt.byOf (fldO s 11), Bt.byOf (fldO t 11)]) upd_same ?_ ?_
    · rw [flat_FR, List.length_map, FR_len hm hs ht]
      decide
    rw [show (flatB [Bt.byOf (fldT z), Bt.byOf (fldO m 7), Bt.byOf (fldO 0 7), Bt.byOf (fldO 0 7), Bt.byOf (fldO s 11), Bt.byOf (fldO t 11)]).toArray = Bt.byOf (FR z m s t) from by rw [flat_FR]; rfl]
    walk_at "rd"
    refine r_bmB ?_
    refine ⟨_, rfl, ?_⟩
    walk_at "rd"
    refine ⟨rfl, ?_⟩
    walk_at "rd"
    refine r_enc hla (by omega) ?_
    walk_at "rd"
    refine sp_tfield haa ha ?_
    walk_at "rd"
    refine r_bytesN (by decide) (by decide) ?_
    walk_at "rd"
    rename_i p2 hp2
    refine r_bjoin (bs := [Bt.byOf l.cps.toList, Bt.byOf (fldT a), #[117, 115, 116, 97, 114, 0, 48, 48], Array.replicate (247 : Int).toNat 0]) upd_same ?_ ?_
    · rw [flat_BK, List.length_map, BK_len hl']
      decide
    rw [show (flatB [Bt.byOf l.cps.toList, Bt.byOf (fldT a), #[117, 115, 116, 97, 114, 0, 48, 48], Array.replicate (247 : Int).toNat 0]).toArray = Bt.byOf (BK l a) from by rw [flat_BK]; rfl]
    walk_at "rd"
    refine r_bytesN (by decide) (by decide) ?_
    rw [show Array.replicate (8 : Int).toNat (0 : UInt8) = Bt.byOf (List.replicate 8 0) from byOf_zero 8]
    refine r_addY (by rw [byOf_size, byOf_size, FR_len hm hs ht]; decide) ?_
    rw [byOf_app]
    walk_at "rd"
    refine r_addY (by rw [byOf_size, byOf_size, List.length_append, FR_len hm hs ht, BK_len hl']; decide) ?_
    rw [byOf_app]
    walk_at "rd"
    refine sp_cfield (by simp only [List.length_append, FR_len hm hs ht, BK_len hl', List.length_replicate]) (fun x hx => ?_) ?_
    · simp only [List.mem_append] at hx
      rcases hx with (hx | hx) | hx
      · have := FR_le hza x hx
        omega
      · have := List.eq_of_mem_replicate hx
        omega
      · have := BK_le hla haa x hx
        omega
    rw [CS_SM hl' hm hs ht]
    refine r_addY (by simp only [byOf_size, List.length_append, FR_len hm hs ht, fldO_len (show 1 ≤ 6 by decide) hsm]; decide) ?_
    rw [byOf_app]
    walk_at "rd"
    refine r_addY (by simp only [byOf_size, List.length_append, FR_len hm hs ht, BK_len hl', fldO_len (show 1 ≤ 6 by decide) hsm]; decide) ?_
    rw [byOf_app, ← List.append_assoc (FR z m s t)]
    exact q _ (same_upd (same_new hp1) hp2)
end
end Th
namespace Th
open PySem PySem.Spec PyProof.Rows L2
local macro_rules | `(tactic| walk_at "lk") => `(tactic| first
  | assumption
  | exact upd_same
  | (refine upd_old (by assumption) ?_; walk_at "lk")
  | (refine upd_diff (by assumption) ?_; walk_at "lk")
  | (refine upd_diff (Ne.symm (by assumption)) ?_; walk_at "lk"))
local macro_rules | `(tactic| walk_at "cnd") => `(tactic| first
  | omega
  | (refine ⟨by omega, by omega⟩)
  | (refine ⟨by omega, by omega, by omega⟩)
  | (refine .inl ⟨by omega, by omega⟩)
  | (refine .inr ⟨by omega, by omega⟩)
  | (exact (show CPow _ _ from ⟨by decide, by decide, by omega⟩))
  | decide +kernel
  | (unfold CMulW; decide +kernel)
  | (exact wide_div (b := 64) (by omega) (by omega) (by decide) (by decide)))
local macro_rules | `(tactic| walk_at "rd1") => `(tactic| first
  | (with_reducible refine r_seq ?_)
  | (with_reducible refine r_asg ?_)
  | (with_reducible refine r_ret ?_)
  | (with_reducible refine r_if ?_)
  | (with_reducible refine r_gname ?_)
  | ((with_reducible refine' r_var ?hv ?_); (case hv => exact rfl))
  | (with_reducible refine r_c ?_)
  | (with_reducible refine r_op ?_)
  | (with_reducible refine r_I0 ?_)
  | ((with_reducible refine r_I ?hc ?_); (case hc => walk_at "cnd"))
  | (with_reducible refine r_test ?_)
  | (with_reducible refine r_tB ?_)
  | (with_reducible refine r_bl ?_)
  | (with_reducible refine r_not ?_)
  | (with_reducible refine r_and ?_)
  | (with_reducible refine r_or ?_)
  | (with_reducible refine r_ifE ?_)
  | (with_reducible refine r_notV ?_)
  | (with_reducible refine r_andV ?_)
  | (with_reducible refine r_orV ?_)
  | (with_reducible refine r_chain ?_)
  | (with_reducible refine r_cb ?_)
  | (with_reducible refine r_call ?_)
  | (with_reducible refine r_callN ?_)
  | (with_reducible refine r_nil ?_)
  | (with_reducible refine r_cons ?_)
  | ((with_reducible refine r_lst ?_))
  | ((with_reducible refine r_tup ?_))
  | ((with_reducible refine r_new ?_ ?_); (exact Nat.le_of_ble_eq_true rfl); (intro p hp))
  | (with_reducible refine r_rInt1 ?_)
  | (with_reducible refine r_rIntB ?_)
  | (with_reducible refine r_rAbs ?_)
  | (with_reducible refine r_rMin2 ?_)
  | (with_reducible refine r_rMax2 ?_)
  | ((with_reducible refine r_rLenZ ?hz ?_); (case hz => first | assumption | exact Nat.le_of_ble_eq_true rfl | (refine Nat.le_trans ?_ (by decide : 100000 ≤ sizeLine); omega)))
  | ((with_reducible refine r_addZ ?hz ?_); (case hz => (refine Nat.le_trans ?_ (by decide : 100000 ≤ sizeLine); first | omega | (simp only [Str.length] at *; simp; omega))))
  | ((with_reducible refine r_mulZ ?hz ?h0 ?h1 ?_); (case hz => first | omega | exact Nat.le_of_ble_eq_true rfl); (case h0 => omega); (case h1 => omega))
  | ((with_reducible refine' r_rLenQ ?h1 ?_); (case h1 => first | (exact .inl (by assumption)) | (exact .inr (by assumption)) | (exact .inl (SqL.of (by walk_at "lk"))) | (exact .inr (SqT.of (by walk_at "lk")))))
  | ((with_reducible refine r_eq ?hs ?_); (case hs => exact rfl))
  | ((with_reducible refine r_ne ?hs ?_); (case hs => exact rfl))
  | (with_reducible refine r_inC ?_)
  | ((with_reducible refine' r_cat ?h1 ?h2 ?h3 ?_); (case h1 => walk_at "lk"); (case h2 => walk_at "lk"); (case h3 => exact Nat.le_of_ble_eq_true rfl); (intro p hp))
  | ((with_reducible refine' r_rep ?h1 ?h2 ?h3 ?h4 ?_); (case h1 => walk_at "lk"); (case h2 => omega); (case h3 => omega); (case h4 => exact Nat.le_of_ble_eq_true rfl); (intro p hp))
  | ((with_reducible refine' r_append ?h1 ?h2 ?_); (case h1 => walk_at "lk"); (case h2 => first | exact (show _ + 1 ≤ sizeLine from Nat.le_of_ble_eq_true rfl) | exact Nat.lt_of_le_of_lt (by omega : _ ≤ 100000) (by decide)))
  | (with_reducible refine r_bm ?_)
  | ((with_reducible refine' r_tyL ?h1 ?_); (case h1 => walk_at "lk"))
  | ((with_reducible refine' r_ixL ?h1 ?h2 ?_); (case h1 => first | assumption | exact SqL.of (by walk_at "lk")); (case h2 => exact rfl))
  | ((with_reducible refine' r_ixT ?h1 ?h2 ?_); (case h1 => first | assumption | exact SqT.of (by walk_at "lk")); (case h2 => exact rfl))
  | (with_reducible refine r_gsub ?_)
  | ((with_reducible refine' r_setL ?h1 ?h2 ?_); (case h1 => walk_at "lk"); (case h2 => exact rfl))
  | (with_reducible refine r_un ?_)
  | (with_reducible refine r_neg ?_)
  | (with_reducible refine r_iteT ?_)
  | (with_reducible refine r_iteNT ?_)
  | (with_reducible refine r_iteNF ?_)
  | (with_reducible refine r_iteF ?_)
  | (with_reducible refine r_next ?_)
  | (with_reducible refine r_drop ?_)
  | (with_reducible refine r_cont ?_)
  | (with_reducible refine r_brk ?_))
local macro_rules | `(tactic| walk_at "ty") => `(tactic| first
  | assumption
  | exact .base (.int _)
  | exact .base (.str _)
  | exact .base (.bl _)
  | exact .base .non
  | exact .byt _
  | exact .base (.lst (by walk_at "lk"))
  | exact .base (.tup (by walk_at "lk")))
local macro_rules | `(tactic| walk_at "rd2") => `(tactic| first
  | walk_at "rd1"
  | ((with_reducible refine' r_isi true ?ht ?hk ?_); (case ht => walk_at "ty"); (case hk => first | assumption | decide +kernel))
  | ((with_reducible refine' r_isi false ?ht ?hk ?_); (case ht => walk_at "ty"); (case hk => first | assumption | decide +kernel))
  | ((with_reducible refine' r_isiT2 true true ?hT ?ht ?hk ?hk2 ?_); (case hT => walk_at "lk"); (case ht => walk_at "ty"); (case hk => decide +kernel); (case hk2 => decide +kernel))
  | ((with_reducible refine' r_isiT2 true false ?hT ?ht ?hk ?hk2 ?_); (case hT => walk_at "lk"); (case ht => walk_at "ty"); (case hk => decide +kernel); (case hk2 => decide +kernel))
  | ((with_reducible refine' r_isiT2 false true ?hT ?ht ?hk ?hk2 ?_); (case hT => walk_at "lk"); (case ht => walk_at "ty"); (case hk => decide +kernel); (case hk2 => decide +kernel))
  | ((with_reducible refine' r_isiT2 false false ?hT ?ht ?hk ?hk2 ?_); (case hT => walk_at "lk"); (case ht => walk_at "ty"); (case hk => decide +kernel); (case hk2 => decide +kernel))
  | (with_reducible refine r_iteNT ?_)
  | ((show (if (!true) = true then _ else _)); refine r_iteNT ?_)
  | (with_reducible refine r_r1 ?_)
  | (with_reducible refine r_maks ?_)
  | (with_reducible refine r_sfld ?_)
  | ((with_reducible refine' r_sfldE ?h1 ?h2 ?h3 ?h4 ?_); (case h1 => walk_at "lk"); (case h2 => assumption); (case h3 => assumption); (case h4 => exact (show _ + 1 ≤ 1000 from Nat.le_of_ble_eq_true rfl)))
  | (with_reducible refine r_fld ?_)
  | (with_reducible refine r_join ?_)
  | (with_reducible refine r_jcons ?_)
  | (with_reducible refine r_jnil ?_)
  | ((with_reducible refine r_rLenY ?hz ?_); (case hz => first | assumption | (refine Nat.le_trans ?_ (by decide : 100000 ≤ sizeLine); omega)))
  | (with_reducible refine r_par ?_)
  | (with_reducible refine r_pair ?_)
  | (with_reducible refine r_par3 ?_)
  | (with_reducible refine r_trip ?_)
  | ((with_reducible refine' r_gtup ?h1 ?h2 ?_); (case h1 => first | assumption | exact SqT.of (by walk_at "lk")); (case h2 => exact rfl))
  | (with_reducible refine r_gcons ?_)
  | (with_reducible refine r_gnil ?_)
  | ((with_reducible refine' r_slL ?h1 ?_); (case h1 => first | assumption | exact SqL.of (by walk_at "lk")); (intro p hp))
  | (with_reducible refine r_iTup ?_)
  | ((with_reducible refine' r_tupE ?h1 ?_); (case h1 => first | assumption | exact SqT.of (by walk_at "lk")))
  | (with_reducible refine r_m1 ?_)
  | (with_reducible refine r_isZ ?_)
  | (with_reducible refine r_sl ?_)
  | (with_reducible refine r_noPart ?_)
  | (with_reducible refine r_part ?_)
  | (with_reducible refine r_partE ?_)
  | ((with_reducible refine r_slS ?hz ?_); (case hz => first | assumption | (refine Nat.le_trans ?_ (by decide : 100000 ≤ sizeLine); omega)))
  | ((with_reducible refine' r_inT ?h1 ?h2 ?h3 ?_); (case h1 => first | assumption | (exact SqT.of (by walk_at "lk"))); (case h2 => exact rfl); (case h3 => exact rfl))
  | ((with_reducible refine' r_inL ?h1 ?h2 ?h3 ?_); (case h1 => first | assumption | (exact SqL.of (by walk_at "lk"))); (case h2 => exact rfl); (case h3 => exact rfl))
  | (with_reducible refine r_lc ?_)
  | (with_reducible refine r_for ?_)
  | (with_reducible refine r_iStr ?_)
  | (with_reducible refine r_strE ?_)
  | (with_reducible refine r_iList ?_)
  | ((with_reducible refine' r_listE ?h1 ?_); (case h1 => first | assumption | exact SqL.of (by walk_at "lk")))
  | (with_reducible refine r_iRng1 ?_)
  | ((with_reducible refine' r_rngE ?h0 ?h1 ?_); (case h0 => first | omega | (split <;> omega)); (case h1 => first | omega | (split <;> omega))))
local macro_rules | `(tactic| walk_at "rd") => `(tactic| (repeat walk_at "rd2"))
local macro_rules | `(tactic| walk_at "st") => `(tactic| (repeat (first
  | (with_reducible refine r_gname ?_)
  | (with_reducible refine r_next ?_)
  | (with_reducible refine r_seq ?_)
  | (with_reducible refine r_asg ?_)
  | (with_reducible refine r_ret ?_)
  | (with_reducible refine r_for ?_)
  | (with_reducible refine r_iRng1 ?_)
  | (with_reducible refine r_iList ?_)
  | (with_reducible refine r_cons ?_)
  | (with_reducible refine r_par ?_)
  | (with_reducible refine r_par3 ?_))))
/-! ### the law's total -/
theorem cutV_mid (xs : List V) (i j : Nat) (h : i ≤ j) (hj : j ≤ xs.length) : cutV xs (some (i : Int)) (some (j : Int)) = (xs.drop i).take (j - i) := by
  unfold cutV
  rw [sIx_nat, sIx_nat, Nat.min_eq_left hj, Nat.min_eq_left (Nat.le_trans h hj)]
section
variable {P : Program} {w : World} {K : PySem.W.Frag} {mg : Str → Option Value} {base : Heap}
def spTotal : Sp := fun vs H Q _ => ∃ (p : Addr) (xs : List Nat), vs = [.ref p] ∧ LN H p xs ∧ xs.length = 512 ∧ ∀ H', Same H H' → Q (.int ((CS xs : Nat) : Int)) H'
theorem sp_total {p : Addr} {xs : List Nat} {H : Hp} {Q : VK} {E : XK} (hp : LN H p xs) (hl : xs.length = 512) (q : ∀ H', Same H H' → Q (.int ((CS xs : Nat) : Int)) H') : spTotal ([.ref p] ++ []) H Q E := ⟨p, xs, rfl, hp, hl, q⟩
theorem sum_parts (xs : List Nat) : xs.sum = (xs.take 148).sum + ((xs.drop 148).take 8).sum + (xs.drop 156).sum := by
  have e1 : xs = xs.take 148 ++ ((xs.drop 148).take 8 ++ xs.drop 156) := by
    have : (xs.drop 148).take 8 ++ xs.drop 156 = xs.drop 148 := by
      have e := List.take_append_drop 8 (xs.drop 148)
      rw [List.drop_drop] at e
      exact e
    rw [this, List.take_append_drop]
  have e2 := congrArg List.sum e1
  rw [List.sum_append, List.sum_append] at e2
  omega
theorem ok_total {f : Addr} {fd : FuncData} {k : Nat} (F : Fun K "_law_total" "_law_total" s__law_total f fd) (m1 : mg "sum" = none) : FnOk P w K mg base CX0 (k + 2) f fd ["_law_numbers"] spTotal := by
  refine F.ok sc__law_total (fun vs H Q E h => ?_) (fun cdv A outer s H vs Q E hr h => ?_)
  · obtain ⟨p, xs, rfl, _⟩ := h
    rfl
  · obtain ⟨p, xs, rfl, hp, hl, q⟩ := h
    have hu := hu_of hr
    have nd := sc__law_total.nd
    refine ⟨_, (pss_one (ps_ret (pe_op op_add (pe_op op_sub (pe_callB (call_sumK K) (by rfl) (by assumption) (by decide +kernel) (pa_cons (pv 0) pa_nil)) (pe_callB (call_sumK K) (by rfl) (by assumption) (by decide +kernel) (pa_cons (pe_slice (sl_listK K) (pv 0) (po_some pe_int) (po_some pe_int)) pa_nil))) pe_int))), ?_⟩
    walk_at "rd"
    refine sumN hp ?_
    walk_at "rd"
    rename_i r hr
    have e : cutV ((nL xs).map V.int) (some 148) (some 156) = (nL ((xs.drop 148).take 8)).map V.int := by
      rw [show (some (148 : Int)) = some ((148 : Nat) : Int) from rfl, show (some (156 : Int)) = some ((156 : Nat) : Int) from rfl, cutV_mid _ 148 156 (by decide) (by rw [nL_len, hl]; decide)]
      unfold nL
      rw [← List.map_drop, ← List.map_take, ← List.map_drop, ← List.map_take]
    refine sumN (xs := (xs.drop 148).take 8) (by unfold LN; rw [upd_same, e]) ?_
    walk_at "rd"
    have e2 : ((xs.sum : Nat) : Int) - ((((xs.drop 148).take 8).sum : Nat) : Int) + 256 = ((CS xs : Nat) : Int) := by
      have := sum_parts xs
      unfold CS
      omega
    rw [e2]
    exact q _ (same_new hr)
end
/-! ### list(b), blob(list) -/
def rListB : List V → Hp → VK → Prop := fun xs H Q => ∃ b : List UInt8, xs = [.byt b.toArray] ∧ b.length ≤ 16777216 ∧ ∀ p, H p = none → Q (.ref p) (upd H p (.lst ((Bt.nums b).map V.int)))
theorem call_listBN {X : Cx} (hc : X.calm = true := by rfl) : CallR X (.type "list") rListB := Bt.call_listB hc
theorem r_listB {xs : List Nat} {H : Hp} {Q : VK} (hx : ∀ x ∈ xs, x < 256) (hz : xs.length ≤ 100000) (q : ∀ p H', H p = none → Same H H' → LN H' p xs → Q (.ref p) H') : rListB [.byt (Bt.byOf xs)] H Q := by
  refine ⟨_, rfl, by rw [List.length_map]; omega, fun p hp => q p _ hp (same_new hp) ?_⟩
  unfold LN
  rw [upd_same, nums_by hx]
theorem byteArr_nL (xs : List Nat) : byteArr (nL xs) = Bt.byOf xs := by
  unfold byteArr nL Bt.byOf
  rw [List.map_map]
  rfl
theorem inByte_nL {xs : List Nat} (hx : ∀ x ∈ xs, x < 256) : (nL xs).all inByte = true := by
  rw [List.all_eq_true]
  intro n hn
  unfold nL at hn
  obtain ⟨x, hx', rfl⟩ := List.mem_map.mp hn
  have := hx x hx'
  unfold inByte
  simp only [Bool.and_eq_true, decide_eq_true_eq]
  omega
theorem sp_blobN {a : Addr} {xs : List Nat} {H : Hp} {Q : VK} {E : XK} (ha : LN H a xs) (hz : xs.length ≤ 70000) (hx : ∀ x ∈ xs, x < 256) (k : ∀ H', Same H H' → Q (.byt (Bt.byOf xs)) H') : spBlob ([.ref a] ++ []) H Q E :=
  sp_blob ha (by rw [nL, List.length_map]; exact hz) (inByte_nL hx) (by rw [byteArr_nL]; exact k)
theorem HD_lt {l z a : Str} {m s t : Nat} (hl : PySem.W.KSb.Asc l) (hz : PySem.W.KSb.Asc z) (ha : PySem.W.KSb.Asc a) : ∀ x ∈ HD l z a m s t, x < 256 := fun x hx => by
  unfold HD at hx
  simp only [List.mem_append] at hx
  rcases hx with ((hx | hx) | hx) | hx
  · have := FR_le hz x hx
    omega
  · have := fldO_le _ _ x hx
    omega
  · have := List.mem_singleton.mp hx
    omega
  · have := BK_le hl ha x hx
    omega
theorem HD_len {l z a : Str} {m s t : Nat} (hl' : l.cps.toList.length = 1) (hl : PySem.W.KSb.Asc l) (hz : PySem.W.KSb.Asc z) (ha : PySem.W.KSb.Asc a) (hm : m < 8 ^ 7) (hs : s < 8 ^ 11) (ht : t < 8 ^ 11) : (HD l z a m s t).length = 512 := by
  have hsm := SM_lt (m := m) (s := s) (t := t) hl' hl hz ha hm hs ht
  unfold HD
  simp only [List.length_append, FR_len hm hs ht, fldO_len (show 1 ≤ 6 by decide) hsm, BK_len hl']
  rfl
end Th
namespace Th
open PySem PySem.Spec PyProof.Rows L2
local macro_rules | `(tactic| walk_at "lk") => `(tactic| first
  | assumption
  | exact upd_same
  | (refine upd_old (by assumption) ?_; walk_at "lk")
  | (refine upd_diff (by assumption) ?_; walk_at "lk")
  | (refine upd_diff (Ne.symm (by assumption)) ?_; walk_at "lk"))
local macro_rules | `(tactic| walk_at "cnd") => `(tactic| first
  | omega
  | (refine ⟨by omega, by omega⟩)
  | (refine ⟨by omega, by omega, by omega⟩)
  | (refine .inl ⟨by omega, by omega⟩)
  | (refine .inr ⟨by omega, by omega⟩)
  | (exact (show CPow _ _ from ⟨by decide, by decide, by omega⟩))
  | decide +kernel
  | (unfold CMulW; decide +kernel)
  | (exact wide_div (b := 64) (by omega) (by omega) (by decide) (by decide)))
local macro_rules | `(tactic| walk_at "rd1") => `(tactic| first
  | (with_reducible refine r_seq ?_)
  | (with_reducible refine r_asg ?_)
  | (with_reducible refine r_ret ?_)
  | (with_reducible refine r_if ?_)
  | (with_reducible refine r_gname ?_)
  | ((with_reducible refine' r_var ?hv ?_); (case hv => exact rfl))
  | (with_reducible refine r_c ?_)
  | (with_reducible refine r_op ?_)
  | (with_reducible refine r_I0 ?_)
  | ((with_reducible refine r_I ?hc ?_); (case hc => walk_at "cnd"))
  | (with_reducible refine r_test ?_)
  | (with_reducible refine r_tB ?_)
  | (with_reducible refine r_bl ?_)
  | (with_reducible refine r_not ?_)
  | (with_reducible refine r_and ?_)
  | (with_reducible refine r_or ?_)
  | (with_reducible refine r_ifE ?_)
  | (with_reducible refine r_notV ?_)
  | (with_reducible refine r_andV ?_)
  | (with_reducible refine r_orV ?_)
  | (with_reducible refine r_chain ?_)
  | (with_reducible refine r_cb ?_)
  | (with_reducible refine r_call ?_)
  | (with_reducible refine r_callN ?_)
  | (with_reducible refine r_nil ?_)
  | (with_reducible refine r_cons ?_)
  | ((with_reducible refine r_lst ?_))
  | ((with_reducible refine r_tup ?_))
  | ((with_reducible refine r_new ?_ ?_); (exact Nat.le_of_ble_eq_true rfl); (intro p hp))
  | (with_reducible refine r_rInt1 ?_)
  | (with_reducible refine r_rIntB ?_)
  | (with_reducible refine r_rAbs ?_)
  | (with_reducible refine r_rMin2 ?_)
  | (with_reducible refine r_rMax2 ?_)
  | ((with_reducible refine r_rLenZ ?hz ?_); (case hz => first | assumption | exact Nat.le_of_ble_eq_true rfl | (refine Nat.le_trans ?_ (by decide : 100000 ≤ sizeLine); omega)))
  | ((with_reducible refine r_addZ ?hz ?_); (case hz => (refine Nat.le_trans ?_ (by decide : 100000 ≤ sizeLine); first | omega | (simp only [Str.length] at *; simp; omega))))
  | ((with_reducible refine r_mulZ ?hz ?h0 ?h1 ?_); (case hz => first | omega | exact Nat.le_of_ble_eq_true rfl); (case h0 => omega); (case h1 => omega))
  | ((with_reducible refine' r_rLenQ ?h1 ?_); (case h1 => first | (exact .inl (by assumption)) | (exact .inr (by assumption)) | (exact .inl (SqL.of (by walk_at "lk"))) | (exact .inr (SqT.of (by walk_at "lk")))))
  | ((with_reducible refine r_eq ?hs ?_); (case hs => exact rfl))
  | ((with_reducible refine r_ne ?hs ?_); (case hs => exact rfl))
  | (with_reducible refine r_inC ?_)
  | ((with_reducible refine' r_cat ?h1 ?h2 ?h3 ?_); (case h1 => walk_at "lk"); (case h2 => walk_at "lk"); (case h3 => exact Nat.le_of_ble_eq_true rfl); (intro p hp))
  | ((with_reducible refine' r_rep ?h1 ?h2 ?h3 ?h4 ?_); (case h1 => walk_at "lk"); (case h2 => omega); (case h3 => omega); (case h4 => exact Nat.le_of_ble_eq_true rfl); (intro p hp))
  | ((with_reducible refine' r_append ?h1 ?h2 ?_); (case h1 => walk_at "lk"); (case h2 => first | exact (show _ + 1 ≤ sizeLine from Nat.le_of_ble_eq_true rfl) | exact Nat.lt_of_le_of_lt (by omega : _ ≤ 100000) (by decide)))
  | (with_reducible refine r_bm ?_)
  | ((with_reducible refine' r_tyL ?h1 ?_); (case h1 => walk_at "lk"))
  | ((with_reducible refine' r_ixL ?h1 ?h2 ?_); (case h1 => first | assumption | exact SqL.of (by walk_at "lk")); (case h2 => exact rfl))
  | ((with_reducible refine' r_ixT ?h1 ?h2 ?_); (case h1 => first | assumption | exact SqT.of (by walk_at "lk")); (case h2 => exact rfl))
  | (with_reducible refine r_gsub ?_)
  | ((with_reducible refine' r_setL ?h1 ?h2 ?_); (case h1 => walk_at "lk"); (case h2 => exact rfl))
  | (with_reducible refine r_un ?_)
  | (with_reducible refine r_neg ?_)
  | (with_reducible refine r_iteT ?_)
  | (with_reducible refine r_iteNT ?_)
  | (with_reducible refine r_iteNF ?_)
  | (with_reducible refine r_iteF ?_)
  | (with_reducible refine r_next ?_)
  | (with_reducible refine r_drop ?_)
  | (with_reducible refine r_cont ?_)
  | (with_reducible refine r_brk ?_))
local macro_rules | `(tactic| walk_at "ty") => `(tactic| first
  | assumption
  | exact .base (.int _)
  | exact .base (.str _)
  | exact .base (.bl _)
  | exact .base .non
  | exact .byt _
  | exact .base (.lst (by walk_at "lk"))
  | exact .base (.tup (by walk_at "lk")))
local macro_rules | `(tactic| walk_at "rd2") => `(tactic| first
  | walk_at "rd1"
  | ((with_reducible refine' r_isi true ?ht ?hk ?_); (case ht => walk_at "ty"); (case hk => first | assumption | decide +kernel))
  | ((with_reducible refine' r_isi false ?ht ?hk ?_); (case ht => walk_at "ty"); (case hk => first | assumption | decide +kernel))
  | ((with_reducible refine' r_isiT2 true true ?hT ?ht ?hk ?hk2 ?_); (case hT => walk_at "lk"); (case ht => walk_at "ty"); (case hk => decide +kernel); (case hk2 => decide +kernel))
  | ((with_reducible refine' r_isiT2 true false ?hT ?ht ?hk ?hk2 ?_); (case hT => walk_at "lk"); (case ht => walk_at "ty"); (case hk => decide +kernel); (case hk2 => decide +kernel))
  | ((with_reducible refine' r_isiT2 false true ?hT ?ht ?hk ?hk2 ?_); (case hT => walk_at "lk"); (case ht => walk_at "ty"); (case hk => decide +kernel); (case hk2 => decide +kernel))
  | ((with_reducible refine' r_isiT2 false false ?hT ?ht ?hk ?hk2 ?_); (case hT => walk_at "lk"); (case ht => walk_at "ty"); (case hk => decide +kernel); (case hk2 => decide +kernel))
  | (with_reducible refine r_iteNT ?_)
  | ((show (if (!true) = true then _ else _)); refine r_iteNT ?_)
  | (with_reducible refine r_r1 ?_)
  | (with_reducible refine r_maks ?_)
  | (with_reducible refine r_sfld ?_)
  | ((with_reducible refine' r_sfldE ?h1 ?h2 ?h3 ?h4 ?_); (case h1 => walk_at "lk"); (case h2 => assumption); (case h3 => assumption); (case h4 => exact (show _ + 1 ≤ 1000 from Nat.le_of_ble_eq_true rfl)))
  | (with_reducible refine r_fld ?_)
  | (with_reducible refine r_join ?_)
  | (with_reducible refine r_jcons ?_)
  | (with_reducible refine r_jnil ?_)
  | ((with_reducible refine r_rLenY ?hz ?_); (case hz => first | assumption | (refine Nat.le_trans ?_ (by decide : 100000 ≤ sizeLine); omega)))
  | (with_reducible refine r_par ?_)
  | (with_reducible refine r_pair ?_)
  | (with_reducible refine r_par3 ?_)
  | (with_reducible refine r_trip ?_)
  | ((with_reducible refine' r_gtup ?h1 ?h2 ?_); (case h1 => first | assumption | exact SqT.of (by walk_at "lk")); (case h2 => exact rfl))
  | (with_reducible refine r_gcons ?_)
  | (with_reducible refine r_gnil ?_)
  | ((with_reducible refine' r_slL ?h1 ?_); (case h1 => first | assumption | exact SqL.of (by walk_at "lk")); (intro p hp))
  | (with_reducible refine r_iTup ?_)
  | ((with_reducible refine' r_tupE ?h1 ?_); (case h1 => first | assumption | exact SqT.of (by walk_at "lk")))
  | (with_reducible refine r_m1 ?_)
  | (with_reducible refine r_isZ ?_)
  | (with_reducible refine r_sl ?_)
  | (with_reducible refine r_noPart ?_)
  | (with_reducible refine r_part ?_)
  | (with_reducible refine r_partE ?_)
  | ((with_reducible refine r_slS ?hz ?_); (case hz => first | assumption | (refine Nat.le_trans ?_ (by decide : 100000 ≤ sizeLine); omega)))
  | ((with_reducible refine' r_inT ?h1 ?h2 ?h3 ?_); (case h1 => first | assumption | (exact SqT.of (by walk_at "lk"))); (case h2 => exact rfl); (case h3 => exact rfl))
  | ((with_reducible refine' r_inL ?h1 ?h2 ?h3 ?_); (case h1 => first | assumption | (exact SqL.of (by walk_at "lk"))); (case h2 => exact rfl); (case h3 => exact rfl))
  | (with_reducible refine r_lc ?_)
  | (with_reducible refine r_for ?_)
  | (with_reducible refine r_iStr ?_)
  | (with_reducible refine r_strE ?_)
  | (with_reducible refine r_iList ?_)
  | ((with_reducible refine' r_listE ?h1 ?_); (case h1 => first | assumption | exact SqL.of (by walk_at "lk")))
  | (with_reducible refine r_iRng1 ?_)
  | ((with_reducible refine' r_rngE ?h0 ?h1 ?_); (case h0 => first | omega | (split <;> omega)); (case h1 => first | omega | (split <;> omega))))
local macro_rules | `(tactic| walk_at "rd") => `(tactic| (repeat walk_at "rd2"))
local macro_rules | `(tactic| walk_at "st") => `(tactic| (repeat (first
  | (with_reducible refine r_gname ?_)
  | (with_reducible refine r_next ?_)
  | (with_reducible refine r_seq ?_)
  | (with_reducible refine r_asg ?_)
  | (with_reducible refine r_ret ?_)
  | (with_reducible refine r_for ?_)
  | (with_reducible refine r_iRng1 ?_)
  | (with_reducible refine r_iList ?_)
  | (with_reducible refine r_cons ?_)
  | (with_reducible refine r_par ?_)
  | (with_reducible refine r_par3 ?_))))

/-! ### lists of ints, compared -/
theorem r_neS {K : PySem.W.Frag} {H : Hp} {Q : VK} {x y : V} {d : PyData} (hx : Dp K H x d) (hy : Dp K H y d) (hs : SeqAt.shaped d = true) (hp : PyData.eqv d d = true) (h : Q (.bl false) H) : rNeD K x y H Q := by
  refine ⟨d, d, hx, hy, hs, hs, ?_⟩
  rw [hp]
  exact h
theorem dp_one {K : PySem.W.Frag} {H : Hp} {a : Addr} {xs : List V} {ds : List PyData} (h : H a = some (.lst xs)) (hs : DpAll K H xs ds) : Dp K H (.ref a) (.list ds) := .lst (SqL.of h) hs
theorem dpa_ints {K : PySem.W.Frag} {H : Hp} : ∀ ns : List Int, DpAll K H (ns.map V.int) (ns.map PyData.int)
  | [] => .nil
  | n :: r => .cons (.int n) (dpa_ints r)
theorem ints_lay : ∀ ns : List Int, PyData.canLayAll0 (ns.map PyData.int) = true ∧ PyData.depthAll (ns.map PyData.int) = 0
  | [] => by simp [PyData.canLayAll0, PyData.depthAll]
  | n :: r => by
    have ih := ints_lay r
    simp [PyData.canLayAll0, PyData.depthAll, PyData.canLay0, PyData.depth, ih.1, ih.2]
theorem ints_shaped (ns : List Int) : SeqAt.shaped (.list (ns.map PyData.int)) = true := by
  simp [SeqAt.shaped, PyData.canLay0, PyData.depth, (ints_lay ns).1, (ints_lay ns).2]
theorem ints_eqvA : ∀ ns : List Int, PyData.eqvAll (ns.map PyData.int) (ns.map PyData.int) = true
  | [] => by simp [PyData.eqvAll]
  | n :: r => by simp [PyData.eqvAll, PyData.eqv, ints_eqvA r]
theorem ints_eqv (ns : List Int) : PyData.eqv (.list (ns.map PyData.int)) (.list (ns.map PyData.int)) = true := by
  simp [PyData.eqv, ints_eqvA]
theorem r_neI {K : PySem.W.Frag} {H : Hp} {Q : VK} {a b : Addr} {ns : List Int} (ha : H a = some (.lst (ns.map V.int))) (hb : H b = some (.lst (ns.map V.int))) (h : Q (.bl false) H) : rNeD K (.ref a) (.ref b) H Q :=
  r_neS (dp_one ha (dpa_ints ns)) (dp_one hb (dpa_ints ns)) (ints_shaped ns) (ints_eqv ns) h
theorem r_neN {K : PySem.W.Frag} {H : Hp} {Q : VK} {a b : Addr} {xs : List Nat} (ha : LN H a xs) (hb : LN H b xs) (h : Q (.bl false) H) : rNeD K (.ref a) (.ref b) H Q := r_neI ha hb h
def spRefused (ok : V → Hp → Prop) : Sp := fun vs H Q _ => ∃ x : V, vs = [x] ∧ ok x H ∧ ∀ H', Same H H' → Q (.bl true) H'
/-! ### f(e, .., k = v, ..): one fact for a call -/
structure CalN (P : Program) (w : World) (K : PySem.W.Frag) (mg : Str → Option Value) (base : Heap) (k : Nat) (x : Str) (n : Nat) (ks : List Str) (gV : List V → List V → List V) (sp : Sp) : Prop where
  ex : ∃ (f : Addr) (fd : FuncData) (ps : List Str) (g : List Value → List Value → List Value), FnOk P w K mg base CX0 k f fd ps sp ∧ mg x = some (.ref f) ∧ PySem.W.keepIn K (.ref f) = true ∧ KBn K fd ps n ks g gV
section
variable {X : Cx} {j k n : Nat} {x : Str} {sp : Sp} {e : Expr} {es : List Expr} {p pos : Pos} {t tk : TA} {ks : List Str} {kws : List Keyword} {gV : List V → List V → List V}
theorem pe_ckN (c : CalN X.prog X.w X.K X.mg X.base k x n ks gV sp) (hr : Room j X.A) (hk : k ≤ j) (hg : Gl X x) (ha : PA X (e :: es) t) (hkw : PK X kws tk)
    (hall : (backToKw pos (keywordEach kws X.env)).all (·.1.isSome) = true := by rfl) (hks : (backToKw pos (keywordEach kws X.env)).filterMap (·.1) = ks := by rfl) (hdb : (x == ("__debug__" : Str)) = false := by decide)
    (he : starEach (e :: es) X.env = (false, eval e X.env) :: starEach es X.env := by rfl)
    (hpl : ((backTo pos (starEach (e :: es) X.env)).any (·.1) || (backToKw pos (keywordEach kws X.env)).any (·.1.isNone)) = false := by rfl) :
    PE X (.Call (.Name x p) (e :: es) kws pos) (tCallN n ks.length sp gV E0 t tk) := by
  obtain ⟨f, fd, ps, g, F, hm, kp, b⟩ := c.ex
  exact pe_callN F (hr.mono hk) hg hm kp b pass0 ha hkw hall hks hdb he hpl
theorem pe_ckN0 (c : CalN X.prog X.w X.K X.mg X.base k x 0 ks gV sp) (hr : Room j X.A) (hk : k ≤ j) (hg : Gl X x) (hkw : PK X kws tk)
    (hall : (backToKw pos (keywordEach kws X.env)).all (·.1.isSome) = true := by rfl) (hks : (backToKw pos (keywordEach kws X.env)).filterMap (·.1) = ks := by rfl) (hdb : (x == ("__debug__" : Str)) = false := by decide)
    (hpl : ((backTo pos (starEach [] X.env)).any (·.1) || (backToKw pos (keywordEach kws X.env)).any (·.1.isNone)) = false := by rfl) :
    PE X (.Call (.Name x p) [] kws pos) (tCallN 0 ks.length sp gV E0 tNil tk) := by
  obtain ⟨f, fd, ps, g, F, hm, kp, b⟩ := c.ex
  constructor
  intro pins s σ H Q I h
  refine wpAny_Call_Name_kw (ld_glob I hg hm ?_ hdb)
  refine PySem.W.callWith_KW0 (h₀ := X.base) I.ok.mod.kin kp hall (thn (hkw.run pos pins s σ H _ I h) ?_) hpl
  rintro ws s2 ⟨zs, H2, I2, rz, l1, l2, q2⟩
  refine ⟨I2.kIn, ?_⟩
  rw [hks]
  exact run_fnN (us := []) (vs := []) F (hr.mono hk) b pass0 I2 .nil rz rfl l2 q2
end
/-! ### f(e, ..) with defaults behind -/
structure CalD (P : Program) (w : World) (K : PySem.W.Frag) (mg : Str → Option Value) (base : Heap) (k : Nat) (x : Str) (dvs : List V) (sp : Sp) : Prop where
  ex : ∃ (f : Addr) (fd : FuncData) (ps : List Str) (ds : List Value), FnOk P w K mg base CX0 k f fd ps sp ∧ mg x = some (.ref f) ∧ PySem.W.keepIn K (.ref f) = true ∧ Binds K fd ps ds ∧ Vals dvs ds
theorem pe_ccD {X : Cx} {j k : Nat} {x : Str} {sp : Sp} {e : Expr} {es : List Expr} {p pos : Pos} {t : TA} {dvs : List V} (c : CalD X.prog X.w X.K X.mg X.base k x dvs sp) (hr : Room j X.A) (hk : k ≤ j) (hg : Gl X x) (ha : PA X (e :: es) t) (hdb : (x == ("__debug__" : Str)) = false := by decide)
    (he : starEach (e :: es) X.env = (false, eval e X.env) :: starEach es X.env := by rfl) (hpl : (backTo pos (starEach es X.env)).any (·.1) = false := by rfl) : PE X (.Call (.Name x p) (e :: es) [] pos) (tCall sp dvs E0 t) := by
  obtain ⟨f, fd, ps, ds, F, hm, kp, b, hd⟩ := c.ex
  exact pe_call F (hr.mono hk) hg hm kp b hd pass0 ha hdb he hpl
end Th
namespace Th
open PySem PySem.Spec PyProof.Rows L2
local macro_rules | `(tactic| walk_at "lk") => `(tactic| first
  | assumption
  | exact upd_same
  | (refine upd_old (by assumption) ?_; walk_at "lk")
  | (refine upd_diff (by assumption) ?_; walk_at "lk")
  | (refine upd_diff (Ne.symm (by assumption)) ?_; walk_at "lk"))
local macro_rules | `(tactic| walk_at "cnd") => `(tactic| first
  | omega
  | (refine ⟨by omega, by omega⟩)
  | (refine ⟨by omega, by omega, by omega⟩)
  | (refine .inl ⟨by omega, by omega⟩)
  | (refine .inr ⟨by omega, by omega⟩)
  | (exact (show CPow _ _ from ⟨by decide, by decide, by omega⟩))
  | decide +kernel
  | (unfold CMulW; decide +kernel)
  | (exact wide_div (b := 64) (by omega) (by omega) (by decide) (by decide)))
local macro_rules | `(tactic| walk_at "rd1") => `(tactic| first
  | (with_reducible refine r_seq ?_)
  | (with_reducible refine r_asg ?_)
  | (with_reducible refine r_ret ?_)
  | (with_reducible refine r_if ?_)
  | (with_reducible refine r_gname ?_)
  | ((with_reducible refine' r_var ?hv ?_); (case hv => exact rfl))
  | (with_reducible refine r_c ?_)
  | (with_reducible refine r_op ?_)
  | (with_reducible refine r_I0 ?_)
  | ((with_reducible refine r_I ?hc ?_); (case hc => walk_at "cnd"))
  | (with_reducible refine r_test ?_)
  | (with_reducible refine r_tB ?_)
  | (with_reducible refine r_bl ?_)
  | (with_reducible refine r_not ?_)
  | (with_reducible refine r_and ?_)
  | (with_reducible refine r_or ?_)
  | (with_reducible refine r_ifE ?_)
  | (with_reducible refine r_notV ?_)
  | (with_reducible refine r_andV ?_)
  | (with_reducible refine r_orV ?_)
  | (with_reducible refine r_chain ?_)
  | (with_reducible refine r_cb ?_)
  | (with_reducible refine r_call ?_)
  | (with_reducible refine r_callN ?_)
  | (with_reducible refine r_nil ?_)
  | (with_reducible refine r_cons ?_)
  | ((with_reducible refine r_lst ?_))
  | ((with_reducible refine r_tup ?_))
  | ((with_reducible refine r_new ?_ ?_); (exact Nat.le_of_ble_eq_true rfl); (intro p hp))
  | (with_reducible refine r_rInt1 ?_)
  | (with_reducible refine r_rIntB ?_)
  | (with_reducible refine r_rAbs ?_)
  | (with_reducible refine r_rMin2 ?_)
  | (with_reducible refine r_rMax2 ?_)
  | ((with_reducible refine r_rLenZ ?hz ?_); (case hz => first | assumption | exact Nat.le_of_ble_eq_true rfl | (refine Nat.le_trans ?_ (by decide : 100000 ≤ sizeLine); omega)))
  | ((with_reducible refine r_addZ ?hz ?_); (case hz => (refine Nat.le_trans ?_ (by decide : 100000 ≤ sizeLine); first | omega | (simp only [Str.length] at *; simp; omega))))
  | ((with_reducible refine r_mulZ ?hz ?h0 ?h1 ?_); (case hz => first | omega | exact Nat.le_of_ble_eq_true rfl); (case h0 => omega); (case h1 => omega))
  | ((with_reducible refine' r_rLenQ ?h1 ?_); (case h1 => first | (exact .inl (by assumption)) | (exact .inr (by assumption)) | (exact .inl (SqL.of (by walk_at "lk"))) | (exact .inr (SqT.of (by walk_at "lk")))))
  | ((with_reducible refine r_eq ?hs ?_); (case hs => exact rfl))
  | ((with_reducible refine r_ne ?hs ?_); (case hs => exact rfl))
  | (with_reducible refine r_inC ?_)
  | ((with_reducible refine' r_cat ?h1 ?h2 ?h3 ?_); (case h1 => walk_at "lk"); (case h2 => walk_at "lk"); (case h3 => exact Nat.le_of_ble_eq_true rfl); (intro p hp))
  | ((with_reducible refine' r_rep ?h1 ?h2 ?h3 ?h4 ?_); (case h1 => walk_at "lk"); (case h2 => omega); (case h3 => omega); (case h4 => exact Nat.le_of_ble_eq_true rfl); (intro p hp))
  | ((with_reducible refine' r_append ?h1 ?h2 ?_); (case h1 => walk_at "lk"); (case h2 => first | exact (show _ + 1 ≤ sizeLine from Nat.le_of_ble_eq_true rfl) | exact Nat.lt_of_le_of_lt (by omega : _ ≤ 100000) (by decide)))
  | (with_reducible refine r_bm ?_)
  | ((with_reducible refine' r_tyL ?h1 ?_); (case h1 => walk_at "lk"))
  | ((with_reducible refine' r_ixL ?h1 ?h2 ?_); (case h1 => first | assumption | exact SqL.of (by walk_at "lk")); (case h2 => exact rfl))
  | ((with_reducible refine' r_ixT ?h1 ?h2 ?_); (case h1 => first | assumption | exact SqT.of (by walk_at "lk")); (case h2 => exact rfl))
  | (with_reducible refine r_gsub ?_)
  | ((with_reducible refine' r_setL ?h1 ?h2 ?_); (case h1 => walk_at "lk"); (case h2 => exact rfl))
  | (with_reducible refine r_un ?_)
  | (with_reducible refine r_neg ?_)
  | (with_reducible refine r_iteT ?_)
  | (with_reducible refine r_iteNT ?_)
  | (with_reducible refine r_iteNF ?_)
  | (with_reducible refine r_iteF ?_)
  | (with_reducible refine r_next ?_)
  | (with_reducible refine r_drop ?_)
  | (with_reducible refine r_cont ?_)
  | (with_reducible refine r_brk ?_))
local macro_rules | `(tactic| walk_at "ty") => `(tactic| first
  | assumption
  | exact .base (.int _)
  | exact .base (.str _)
  | exact .base (.bl _)
  | exact .base .non
  | exact .byt _
  | exact .base (.lst (by walk_at "lk"))
  | exact .base (.tup (by walk_at "lk")))
local macro_rules | `(tactic| walk_at "rd2") => `(tactic| first
  | walk_at "rd1"
  | ((with_reducible refine' r_isi true ?ht ?hk ?_); (case ht => walk_at "ty"); (case hk => first | assumption | decide +kernel))
  | ((with_reducible refine' r_isi false ?ht ?hk ?_); (case ht => walk_at "ty"); (case hk => first | assumption | decide +kernel))
  | ((with_reducible refine' r_isiT2 true true ?hT ?ht ?hk ?hk2 ?_); (case hT => walk_at "lk"); (case ht => walk_at "ty"); (case hk => decide +kernel); (case hk2 => decide +kernel))
  | ((with_reducible refine' r_isiT2 true false ?hT ?ht ?hk ?hk2 ?_); (case hT => walk_at "lk"); (case ht => walk_at "ty"); (case hk => decide +kernel); (case hk2 => decide +kernel))
  | ((with_reducible refine' r_isiT2 false true ?hT ?ht ?hk ?hk2 ?_); (case hT => walk_at "lk"); (case ht => walk_at "ty"); (case hk => decide +kernel); (case hk2 => decide +kernel))
  | ((with_reducible refine' r_isiT2 false false ?hT ?ht ?hk ?hk2 ?_); (case hT => walk_at "lk"); (case ht => walk_at "ty"); (case hk => decide +kernel); (case hk2 => decide +kernel))
  | (with_reducible refine r_iteNT ?_)
  | ((show (if (!true) = true then _ else _)); refine r_iteNT ?_)
  | (with_reducible refine r_r1 ?_)
  | (with_reducible refine r_maks ?_)
  | (with_reducible refine r_sfld ?_)
  | ((with_reducible refine' r_sfldE ?h1 ?h2 ?h3 ?h4 ?_); (case h1 => walk_at "lk"); (case h2 => assumption); (case h3 => assumption); (case h4 => exact (show _ + 1 ≤ 1000 from Nat.le_of_ble_eq_true rfl)))
  | (with_reducible refine r_fld ?_)
  | (with_reducible refine r_join ?_)
  | (with_reducible refine r_jcons ?_)
  | (with_reducible refine r_jnil ?_)
  | ((with_reducible refine r_rLenY ?hz ?_); (case hz => first | assumption | (refine Nat.le_trans ?_ (by decide : 100000 ≤ sizeLine); omega)))
  | (with_reducible refine r_par ?_)
  | (with_reducible refine r_pair ?_)
  | (with_reducible refine r_par3 ?_)
  | (with_reducible refine r_trip ?_)
  | ((with_reducible refine' r_gtup ?h1 ?h2 ?_); (case h1 => first | assumption | exact SqT.of (by walk_at "lk")); (case h2 => exact rfl))
  | (with_reducible refine r_gcons ?_)
  | (with_reducible refine r_gnil ?_)
  | ((with_reducible refine' r_slL ?h1 ?_); (case h1 => first | assumption | exact SqL.of (by walk_at "lk")); (intro p hp))
  | (with_reducible refine r_iTup ?_)
  | ((with_reducible refine' r_tupE ?h1 ?_); (case h1 => first | assumption | exact SqT.of (by walk_at "lk")))
  | (with_reducible refine r_m1 ?_)
  | (with_reducible refine r_isZ ?_)
  | (with_reducible refine r_sl ?_)
  | (with_reducible refine r_noPart ?_)
  | (with_reducible refine r_part ?_)
  | (with_reducible refine r_partE ?_)
  | ((with_reducible refine r_slS ?hz ?_); (case hz => first | assumption | (refine Nat.le_trans ?_ (by decide : 100000 ≤ sizeLine); omega)))
  | ((with_reducible refine' r_inT ?h1 ?h2 ?h3 ?_); (case h1 => first | assumption | (exact SqT.of (by walk_at "lk"))); (case h2 => exact rfl); (case h3 => exact rfl))
  | ((with_reducible refine' r_inL ?h1 ?h2 ?h3 ?_); (case h1 => first | assumption | (exact SqL.of (by walk_at "lk"))); (case h2 => exact rfl); (case h3 => exact rfl))
  | (with_reducible refine r_lc ?_)
  | (with_reducible refine r_for ?_)
  | (with_reducible refine r_iStr ?_)
  | (with_reducible refine r_strE ?_)
  | (with_reducible refine r_iList ?_)
  | ((with_reducible refine' r_listE ?h1 ?_); (case h1 => first | assumption | exact SqL.of (by walk_at "lk")))
  | (with_reducible refine r_iRng1 ?_)
  | ((with_reducible refine' r_rngE ?h0 ?h1 ?_); (case h0 => first | omega | (split <;> omega)); (case h1 => first | omega | (split <;> omega))))
local macro_rules | `(tactic| walk_at "rd") => `(tactic| (repeat walk_at "rd2"))
local macro_rules | `(tactic| walk_at "st") => `(tactic| (repeat (first
  | (with_reducible refine r_gname ?_)
  | (with_reducible refine r_next ?_)
  | (with_reducible refine r_seq ?_)
  | (with_reducible refine r_asg ?_)
  | (with_reducible refine r_ret ?_)
  | (with_reducible refine r_for ?_)
  | (with_reducible refine r_iRng1 ?_)
  | (with_reducible refine r_iList ?_)
  | (with_reducible refine r_cons ?_)
  | (with_reducible refine r_par ?_)
  | (with_reducible refine r_par3 ?_))))
/-! ### the law -/
section
variable {P : Program} {w : World} {K : PySem.W.Frag} {mg : Str → Option Value} {base : Heap}
def spLaw (K : PySem.W.Frag) : Sp := fun vs H Q _ => ∃ (a : Addr) (ns : List Int), vs = [.ref a] ∧ SqL K H a (ns.map V.int) ∧ ns.length ≤ 63 ∧ ∀ H', Q (.bl true) H'
/-- what checksum refuses, in the law -/
def Odd (x : V) (H : Hp) : Prop := x = .non ∨ x = .int 512 ∨ (∃ z : Str, x = .str z ∧ PySem.W.KSb.Asc z ∧ z.length ≤ 512) ∨ (∃ p xs, x = .ref p ∧ LN H p xs ∧ xs.length ≤ 512 ∧ ∀ v ∈ xs, v < 256) ∨ ∃ xs : List Nat, x = .byt (Bt.byOf xs) ∧ xs.length ≤ 513 ∧ xs.length ≠ 512
theorem seq_same {K : PySem.W.Frag} {H H' : Hp} {p : Addr} {xs : List V} (e : Same H H') (h : SqL K H p xs) : SqL K H' p xs := h.imp (fun h => rd_same e h) id
def TX (z : Str) : Prop := PySem.W.KSb.Asc z ∧ z.length ≤ 250
theorem asc_chars {z : Str} (h : charsB z = true) : PySem.W.KSb.Asc z := fun c hc => by
  unfold charsB at h
  have h1 := of_decide_eq_true (List.all_eq_true.mp h c hc)
  have h2 : ∀ d ∈ NC.cps.toList, d < 128 := by decide +kernel
  exact h2 c h1
theorem tx_cut {z : Str} (h : nameB z = true) : TX (cutS z none (some (150 : Int))) := by
  obtain ⟨_, h2, h3⟩ := of_name h
  refine ⟨?_, Nat.le_trans (cutS_length ..) h2⟩
  rw [show (some (150 : Int)) = some ((150 : Nat) : Int) from rfl, cut_to]
  exact asc_take (asc_chars h3) 150
theorem tx_four {y1 y2 : Str} (t1 : TX y1) (t2 : TX y2) : ∀ v ∈ ([.str "", .str "././@LongLink", .str y1, .str y2] : List V), ∃ z, v = .str z ∧ TX z := by
  intro v hv
  simp only [List.mem_cons, List.not_mem_nil, or_false] at hv
  rcases hv with rfl | rfl | rfl | rfl
  · exact ⟨_, rfl, fun c hc => (by cases hc), by decide⟩
  · exact ⟨_, rfl, (by show ∀ c ∈ _, _; decide +kernel), by decide +kernel⟩
  · exact ⟨_, rfl, t1⟩
  · exact ⟨_, rfl, t2⟩
theorem same_but {H0 H H' : Hp} {p : Addr} (s : Same H0 H) (hp : H0 p = none) (b : But p H H') : Same H0 H' := fun a o e => b a o (ne_of_none e hp) (s a o e)
theorem r_eqN {K : PySem.W.Frag} {H : Hp} {Q : VK} {a b : Addr} {xs : List Nat} (ha : LN H a xs) (hb : LN H b xs) (h : Q (.bl true) H) : rEqD K (.ref a) (.ref b) H Q :=
  ⟨_, _, dp_one ha (dpa_ints _), dp_one hb (dpa_ints _), ints_shaped _, ints_shaped _, by rw [ints_eqv]; exact h⟩
theorem tx_two {y2 : Str} {v : V} (h : v ∈ ([.str "", .str y2] : List V)) : v ∈ ([.str "", .str "././@LongLink", .str y2, .str y2] : List V) := by
  simp only [List.mem_cons, List.not_mem_nil, or_false] at h ⊢
  rcases h with rfl | rfl
  · exact .inl rfl
  · exact .inr (.inr (.inl rfl))
theorem mode_four : ∀ v ∈ ([.int 0, .int 511, .int 4095, .int (8 ^ Int.toNat 7 - 1)] : List V), ∃ m : Nat, v = .int (m : Int) ∧ m < 8 ^ 7 := by
  intro v hv
  simp only [List.mem_cons, List.not_mem_nil, or_false] at hv
  rcases hv with rfl | rfl | rfl | rfl
  · exact ⟨0, rfl, by decide⟩
  · exact ⟨511, rfl, by decide⟩
  · exact ⟨4095, rfl, by decide⟩
  · exact ⟨2097151, rfl, by decide⟩
theorem time_three {ti : Int} (h0 : 0 ≤ ti) (h1 : ti < 8 ^ Int.toNat 11) : ∀ v ∈ ([.int 0, .int (8 ^ Int.toNat 11 - 1), .int ti] : List V), ∃ t : Nat, v = .int (t : Int) ∧ t < 8 ^ 11 := by
  intro v hv
  obtain ⟨tn, rfl⟩ := Int.eq_ofNat_of_zero_le h0
  have e8 : (8 : Int) ^ Int.toNat 11 = 8589934592 := by decide
  simp only [List.mem_cons, List.not_mem_nil, or_false] at hv
  rcases hv with rfl | rfl | rfl
  · exact ⟨0, rfl, by decide⟩
  · exact ⟨8589934591, rfl, by decide⟩
  · exact ⟨tn, rfl, by omega⟩
theorem src_set {H : Hp} {a g : Addr} {o : HO} (hn : g ≠ a) (h : Src H a) : Src (upd H g o) a := by
  obtain ⟨l, m, c, h1, h2⟩ := h
  exact ⟨l, m, c, by rw [upd_ne hn.symm]; exact h1, h2⟩
theorem same_set {H H' : Hp} {g : Addr} {o : HO} (e : Same H H') (hg : H g = none) : Same H (upd H' g o) := fun b x eb => by
  rw [upd_ne (ne_of_none eb hg)]
  exact e _ _ eb
theorem asc_letter {c : Nat} (h : c ∈ (Str.ofString "0S521KL").cps.toList) : PySem.W.KSb.Asc ⟨#[c]⟩ := fun d hd => by
  have h1 : ∀ x ∈ (Str.ofString "0S521KL").cps.toList, x < 128 := by decide +kernel
  have h2 : d = c := by simpa using hd
  rw [h2]
  exact h1 c h
theorem HD_take {l z a : Str} {m s t : Nat} : (HD l z a m s t).take 100 = fldT z := by
  unfold HD FR
  simp only [List.append_assoc]
  rw [List.take_append_of_le_length (Nat.le_of_eq (fldT_len z).symm), List.take_of_length_le (Nat.le_of_eq (fldT_len z))]
theorem aaa : PySem.W.KSb.Asc (repZ (Str.ofString "a") 512) ∧ (repZ (Str.ofString "a") 512).length ≤ 512 := ⟨(by show ∀ c ∈ _, _; decide +kernel), by decide +kernel⟩
def tT (K : PySem.W.Frag) : TS := tSeq
                  (tIfS
                    (tOr
                      (tTest
                        (tOp rNe (tCall spCheck [] E0 (tCons (tVar 10) tNil))
                          (tCall spTotal [] E0 (tCons (tVar 9) tNil))))
                      (tTest
                        (tOp rNe
                          (tCallN 0 1 spCheck (fun us ws => us ++ ws) E0 tNil
                            (tCons (tVar 10) tNil))
                          (tCall spCheck [] E0 (tCons (tVar 10) tNil)))))
                    (tRet (tC (V.bl false))) tNext)
                  (tSeq (tAsg (tCall spDraw [] E0 (tCons (tVar 2) (tCons (tC (V.int 512)) tNil))) (gName 11))
                    (tSeq
                      (tAsg
                        (tOp rCat
                          (tOp rCat (tSl (rSlL K) (tVar 9) tNoPart (tPart (tVar 11)))
                            (tLst (tCons (tCall spDraw [] E0 (tCons (tVar 2) (tCons (tC (V.int 256)) tNil))) tNil)))
                          (tSl (rSlL K) (tVar 9) (tPart (tOp (rI0 fun i j => V.int (i + j)) (tVar 11) (tC (V.int 1))))
                            tNoPart))
                        (gName 12))
                      (tSeq
                        (tIfS
                          (tTest
                            (tOp rNe (tCall spCheck [] E0 (tCons (tCall spBlob [] E0 (tCons (tVar 12) tNil)) tNil))
                              (tCall spTotal [] E0 (tCons (tVar 12) tNil))))
                          (tRet (tC (V.bl false))) tNext)
                        (tSeq
                          (tAsg
                            (tOp (rIxL K)
                              (tLst
                                (tCons (tC V.non)
                                  (tCons (tVar 9)
                                    (tCons (tOp rMulZ (tC (V.str (Str.ofString "a"))) (tC (V.int 512)))
                                      (tCons
                                        (tCall spBlob [] E0
                                          (tCons (tSl (rSlL K) (tVar 9) tNoPart (tPart (tC (V.int 511)))) tNil))
                                        (tCons
                                          (tCall spBlob [] E0
                                            (tCons (tOp rCat (tVar 9) (tLst (tCons (tC (V.int 0)) tNil))) tNil))
                                          (tCons (tCall spBlob [] E0 (tCons (tLst tNil) tNil))
                                            (tCons (tC (V.int 512)) tNil))))))))
                              (tCall spDraw [] E0 (tCons (tVar 2) (tCons (tC (V.int 7)) tNil))))
                            (gName 13))
                          (tIfS (tNot (tB (tCall (spRefused Odd) [] E0 (tCons (tVar 13) tNil))))
                            (tRet (tC (V.bl false))) tNext)))))
theorem tail {K : PySem.W.Frag} {D : Ends} {p g : Addr} {xs : List Nat} {H : Hp} {v0 v1 v3 v4 v5 v6 v7 v8 v11 v12 v13 v14 : Option V} (hs : Src H p) (l : LN H g xs) (hl : xs.length = 512) (hx : ∀ x ∈ xs, x < 256)
    (k : ∀ w11 w12 w13 H', Src H' p → But p H H' → D.nx [v0, v1, some (.ref p), v3, v4, v5, v6, v7, v8, some (.ref g), some (.byt (Bt.byOf xs)), w11, w12, w13, v14] H') :
    tT K D [v0, v1, some (.ref p), v3, v4, v5, v6, v7, v8, some (.ref g), some (.byt (Bt.byOf xs)), v11, v12, v13, v14] H := by
  unfold tT
  walk_at "rd"
  refine sp_check hl hx ?_
  walk_at "rd"
  refine sp_total l hl (fun H1 e1 => ?_)
  walk_at "rd"
  rw [show (!decide (V.int ((CS xs : Nat) : Int) = V.int ((CS xs : Nat) : Int))) = false by simp]
  walk_at "rd"
  refine ⟨rfl, rfl, sp_check hl hx ?_⟩
  walk_at "rd"
  refine sp_check hl hx ?_
  walk_at "rd"
  rw [show (!decide (V.int ((CS xs : Nat) : Int) = V.int ((CS xs : Nat) : Int))) = false by simp]
  have gp : g ≠ p := by
    rintro rfl
    obtain ⟨a1, b1, c1, hh, _⟩ := hs
    have e2 := Option.some.inj (hh.symm.trans l)
    have e3 : [V.int a1, V.int b1, V.int c1] = (nL xs).map V.int := by injection e2
    have e4 := congrArg List.length e3
    rw [nL_len, hl] at e4
    exact absurd (show 3 = 512 from e4) (by decide)
  have hs1 := hs.same e1
  have l1 := l.same e1
  have b1 : But p H H1 := fun b o _ e => e1 b o e
  clear e1
  walk_at "rd"
  refine sp_draw hs1 (by decide) (by decide) (fun d H2 d0 d1 hs2 hb2 => ?_)
  obtain ⟨dn, rfl⟩ := Int.eq_ofNat_of_zero_le d0
  have l2 : LN H2 g xs := hb2 g _ gp l1
  have b2 := b1.trans hb2
  clear hb2 b1 l1 hs1
  walk_at "rd"
  rename_i q1 hq1
  have hs3 := hs2.new (o := .lst (cutV ((nL xs).map V.int) none (some (dn : Int)))) hq1
  have l3 : LN (upd H2 q1 (.lst (cutV ((nL xs).map V.int) none (some (dn : Int))))) g xs := upd_old hq1 l2
  have m3 : LN (upd H2 q1 (.lst (cutV ((nL xs).map V.int) none (some (dn : Int))))) q1 (xs.take dn) := by
    unfold LN
    rw [upd_same, cutV_to]
    simp [nL, List.map_take]
  have b3 : But p H (upd H2 q1 (.lst (cutV ((nL xs).map V.int) none (some (dn : Int))))) := b2.trans (fun b o _ e => upd_old hq1 e)
  have q1p : q1 ≠ p := hs2.ne hq1
  generalize upd H2 q1 (.lst (cutV ((nL xs).map V.int) none (some (dn : Int)))) = H3 at *
  clear hq1 l2 hs2 b2
  refine sp_draw hs3 (by decide) (by decide) (fun e H4 e0 e1 hs4 hb4 => ?_)
  obtain ⟨en, rfl⟩ := Int.eq_ofNat_of_zero_le e0
  have l4 : LN H4 g xs := hb4 g _ gp l3
  have m4 : LN H4 q1 (xs.take dn) := hb4 q1 _ q1p m3
  have b4 := b3.trans hb4
  clear hb4 l3 m3 hs3 b3
  walk_at "rd"
  rename_i q2 hq2
  refine catN (xs := xs.take dn) (ys := [en]) (upd_old hq2 m4) (by unfold LN; rw [upd_same]; rfl) (by simp [hl]; omega) (fun q3 H5 hq3 e5 l5 => ?_)
  have l6 : LN H5 g xs := e5 _ _ (upd_old hq2 l4)
  have hs5 : Src H5 p := (hs4.new hq2).same e5
  have b5 : But p H H5 := b4.trans (fun b o _ e => e5 _ _ (upd_old hq2 e))
  clear b4 l4 m4 e5 hq3 hq2 hs4
  walk_at "rd"
  rename_i q4 hq4
  have m5 : LN (upd H5 q4 (.lst (cutV ((nL xs).map V.int) (some ((dn : Int) + 1)) none))) q4 (xs.drop (dn + 1)) := by
    unfold LN
    rw [upd_same, show ((dn : Int) + 1) = ((dn + 1 : Nat) : Int) from rfl, cutV_from]
    simp [nL, List.map_drop]
  refine catN (xs := xs.take dn ++ [en]) (ys := xs.drop (dn + 1)) (upd_old hq4 l5) m5 (by simp [hl]; omega) (fun q5 H6 hq5 e6 l7 => ?_)
  have l8 : LN H6 g xs := e6 _ _ (upd_old hq4 l6)
  have hs6 : Src H6 p := (hs5.new hq4).same e6
  have b6 : But p H H6 := b5.trans (fun b o _ e => e6 _ _ (upd_old hq4 e))
  have yl : (xs.take dn ++ [en] ++ xs.drop (dn + 1)).length = 512 := by simp [hl]; omega
  have yx : ∀ x ∈ xs.take dn ++ [en] ++ xs.drop (dn + 1), x < 256 := by
    intro x hxm
    rcases List.mem_append.mp hxm with hxm | hxm
    · rcases List.mem_append.mp hxm with hxm | hxm
      · exact hx x (List.mem_of_mem_take hxm)
      · obtain rfl := List.mem_singleton.mp hxm
        omega
    · exact hx x (List.mem_of_mem_drop hxm)
  clear b5 m5 l6 l5 e6 hq4 hs5
  generalize xs.take dn ++ [en] ++ xs.drop (dn + 1) = ys at *
  walk_at "rd"
  refine sp_blobN l7 (by omega) yx (fun H7 e7 => ?_)
  have l9 : LN H7 q5 ys := l7.same e7
  walk_at "rd"
  refine sp_check yl yx ?_
  walk_at "rd"
  refine sp_total l9 yl (fun H8 e8 => ?_)
  walk_at "rd"
  rw [show (!decide (V.int ((CS ys : Nat) : Int) = V.int ((CS ys : Nat) : Int))) = false by simp]
  have hs8 := (hs6.same e7).same e8
  have b8 : But p H H8 := b6.trans (fun b o _ e => e8 _ _ (e7 _ _ e))
  have l10 : LN H8 g xs := (l8.same e7).same e8
  clear l7 l8 l9 hs6 b6 e7 e8 yl yx
  walk_at "rd"
  rename_i q6 hq6
  have m6 : LN (upd H8 q6 (.lst (cutV ((nL xs).map V.int) none (some (511 : Int))))) q6 (xs.take 511) := by
    unfold LN
    rw [upd_same, show ((511 : Int)) = ((511 : Nat) : Int) from rfl, cutV_to]
    simp [nL, List.map_take]
  refine sp_blobN m6 (by simp; omega) (fun x hxm => hx x (List.mem_of_mem_take hxm)) (fun H9 e9 => ?_)
  have l11 : LN H9 g xs := e9 _ _ (upd_old hq6 l10)
  have hs9 : Src H9 p := (hs8.new hq6).same e9
  have b9 : But p H H9 := b8.trans (fun b o _ e => e9 _ _ (upd_old hq6 e))
  clear m6 l10 hs8 b8 e9 hq6
  walk_at "rd"
  rename_i q7 hq7
  refine catN (xs := xs) (ys := [0]) (upd_old hq7 l11) (by unfold LN; rw [upd_same]; rfl) (by simp [hl]) (fun q8 H10 hq8 e10 l12 => ?_)
  have l13 : LN H10 g xs := e10 _ _ (upd_old hq7 l11)
  have hs10 : Src H10 p := (hs9.new hq7).same e10
  have b10 : But p H H10 := b9.trans (fun b o _ e => e10 _ _ (upd_old hq7 e))
  clear l11 hs9 b9 e10 hq8 hq7
  walk_at "rd"
  refine sp_blobN l12 (by simp [hl]) (fun x hxm => by
    rcases List.mem_append.mp hxm with hxm | hxm
    · exact hx x hxm
    · obtain rfl := List.mem_singleton.mp hxm
      omega) (fun H11 e11 => ?_)
  have l14 : LN H11 g xs := e11 _ _ l13
  have hs11 : Src H11 p := hs10.same e11
  have b11 : But p H H11 := b10.trans (fun b o _ e => e11 _ _ e)
  clear l12 l13 hs10 b10 e11
  walk_at "rd"
  rename_i q9 hq9
  refine sp_blobN (xs := []) (by unfold LN; rw [upd_same]; rfl) (by decide) (fun x hxm => by cases hxm) (fun H12 e12 => ?_)
  have l15 : LN H12 g xs := e12 _ _ (upd_old hq9 l14)
  have hs12 : Src H12 p := (hs11.new hq9).same e12
  have b12 : But p H H12 := b11.trans (fun b o _ e => e12 _ _ (upd_old hq9 e))
  clear l14 hs11 b11 e12 hq9
  walk_at "rd"
  rename_i q10 hq10
  have hs13 := hs12.new (o := .lst [V.non, V.ref g, V.str (repZ (Str.ofString "a") 512), V.byt (Bt.byOf (xs.take 511)), V.byt (Bt.byOf (xs ++ [0])), V.byt (Bt.byOf []), V.int 512]) hq10
  have l16 := upd_old (o := .lst [V.non, V.ref g, V.str (repZ (Str.ofString "a") 512), V.byt (Bt.byOf (xs.take 511)), V.byt (Bt.byOf (xs ++ [0])), V.byt (Bt.byOf []), V.int 512]) hq10 l15
  have m16 : (upd H12 q10 (.lst [V.non, V.ref g, V.str (repZ (Str.ofString "a") 512), V.byt (Bt.byOf (xs.take 511)), V.byt (Bt.byOf (xs ++ [0])), V.byt (Bt.byOf []), V.int 512])) q10 = some (.lst [V.non, V.ref g, V.str (repZ (Str.ofString "a") 512), V.byt (Bt.byOf (xs.take 511)), V.byt (Bt.byOf (xs ++ [0])), V.byt (Bt.byOf []), V.int 512]) := upd_same
  have b13 : But p H (upd H12 q10 (.lst [V.non, V.ref g, V.str (repZ (Str.ofString "a") 512), V.byt (Bt.byOf (xs.take 511)), V.byt (Bt.byOf (xs ++ [0])), V.byt (Bt.byOf []), V.int 512])) := b12.trans (fun b o _ e => upd_old hq10 e)
  have q10p : q10 ≠ p := hs12.ne hq10
  generalize upd H12 q10 (.lst [V.non, V.ref g, V.str (repZ (Str.ofString "a") 512), V.byt (Bt.byOf (xs.take 511)), V.byt (Bt.byOf (xs ++ [0])), V.byt (Bt.byOf []), V.int 512]) = H13 at *
  refine sp_draw hs13 (by decide) (by decide) (fun d' H14 d0' d1' hs14 hb14 => ?_)
  have l17 : LN H14 g xs := hb14 g _ gp l16
  have b14 := b13.trans hb14
  obtain ⟨ov, hov, eov⟩ := pick_at (xs := [V.non, V.ref g, V.str (repZ (Str.ofString "a") 512), V.byt (Bt.byOf (xs.take 511)), V.byt (Bt.byOf (xs ++ [0])), V.byt (Bt.byOf []), V.int 512]) d0' d1'
  have hodd : Odd ov H14 := by
    simp only [List.mem_cons, List.not_mem_nil, or_false] at hov
    rcases hov with rfl | rfl | rfl | rfl | rfl | rfl | rfl
    · exact .inl rfl
    · exact .inr (.inr (.inr (.inl ⟨_, _, rfl, l17, by omega, hx⟩)))
    · exact .inr (.inr (.inl ⟨_, rfl, aaa.1, aaa.2⟩))
    · exact .inr (.inr (.inr (.inr ⟨_, rfl, by simp; omega, by simp; omega⟩)))
    · exact .inr (.inr (.inr (.inr ⟨_, rfl, by simp [hl], by simp [hl]⟩)))
    · exact .inr (.inr (.inr (.inr ⟨_, rfl, by decide, by decide⟩)))
    · exact .inr (.inl rfl)
  refine r_ixL (SqL.of (hb14 q10 _ q10p m16)) eov ?_
  walk_at "rd"
  refine ⟨ov, rfl, hodd, fun H15 e15 => ?_⟩
  walk_at "rd"
  exact k _ _ _ _ (hs14.same e15) (b14.trans (fun b o _ e => e15 _ _ e))
end
end Th
namespace Th
open PySem PySem.Spec PyProof.Rows L2
local macro_rules | `(tactic| walk_at "lk") => `(tactic| first
  | assumption
  | exact upd_same
  | (refine upd_old (by assumption) ?_; walk_at "lk")
  | (refine upd_diff (by assumption) ?_; walk_at "lk")
  | (refine upd_diff (Ne.symm (by assumption)) ?_; walk_at "lk"))
local macro_rules | `(tactic| walk_at "cnd") => `(tactic| first
  | omega
  | (refine ⟨by omega, by omega⟩)
  | (refine ⟨by omega, by omega, by omega⟩)
  | (refine .inl ⟨by omega, by omega⟩)
  | (refine .inr ⟨by omega, by omega⟩)
  | (exact (show CPow _ _ from ⟨by decide, by decide, by omega⟩))
  | decide +kernel
  | (unfold CMulW; decide +kernel)
  | (exact wide_div (b := 64) (by omega) (by omega) (by decide) (by decide)))
local macro_rules | `(tactic| walk_at "rd1") => `(tactic| first
  | (with_reducible refine r_seq ?_)
  | (with_reducible refine r_asg ?_)
  | (with_reducible refine r_ret ?_)
  | (with_reducible refine r_if ?_)
  | (with_reducible refine r_gname ?_)
  | ((with_reducible refine' r_var ?hv ?_); (case hv => exact rfl))
  | (with_reducible refine r_c ?_)
  | (with_reducible refine r_op ?_)
  | (with_reducible refine r_I0 ?_)
  | ((with_reducible refine r_I ?hc ?_); (case hc => walk_at "cnd"))
  | (with_reducible refine r_test ?_)
  | (with_reducible refine r_tB ?_)
  | (with_reducible refine r_bl ?_)
  | (with_reducible refine r_not ?_)
  | (with_reducible refine r_and ?_)
  | (with_reducible refine r_or ?_)
  | (with_reducible refine r_ifE ?_)
  | (with_reducible refine r_notV ?_)
  | (with_reducible refine r_andV ?_)
  | (with_reducible refine r_orV ?_)
  | (with_reducible refine r_chain ?_)
  | (with_reducible refine r_cb ?_)
  | (with_reducible refine r_call ?_)
  | (with_reducible refine r_callN ?_)
  | (with_reducible refine r_nil ?_)
  | (with_reducible refine r_cons ?_)
  | ((with_reducible refine r_lst ?_))
  | ((with_reducible refine r_tup ?_))
  | ((with_reducible refine r_new ?_ ?_); (exact Nat.le_of_ble_eq_true rfl); (intro p hp))
  | (with_reducible refine r_rInt1 ?_)
  | (with_reducible refine r_rIntB ?_)
  | (with_reducible refine r_rAbs ?_)
  | (with_reducible refine r_rMin2 ?_)
  | (with_reducible refine r_rMax2 ?_)
  | ((with_reducible refine r_rLenZ ?hz ?_); (case hz => first | assumption | exact Nat.le_of_ble_eq_true rfl | (refine Nat.le_trans ?_ (by decide : 100000 ≤ sizeLine); omega)))
  | ((with_reducible refine r_addZ ?hz ?_); (case hz => (refine Nat.le_trans ?_ (by decide : 100000 ≤ sizeLine); first | omega | (simp only [Str.length] at *; simp; omega))))
  | ((with_reducible refine r_mulZ ?hz ?h0 ?h1 ?_); (case hz => first | omega | exact Nat.le_of_ble_eq_true rfl); (case h0 => omega); (case h1 => omega))
  | ((with_reducible refine' r_rLenQ ?h1 ?_); (case h1 => first | (exact .inl (by assumption)) | (exact .inr (by assumption)) | (exact .inl (SqL.of (by walk_at "lk"))) | (exact .inr (SqT.of (by walk_at "lk")))))
  | ((with_reducible refine r_eq ?hs ?_); (case hs => exact rfl))
  | ((with_reducible refine r_ne ?hs ?_); (case hs => exact rfl))
  | (with_reducible refine r_inC ?_)
  | ((with_reducible refine' r_cat ?h1 ?h2 ?h3 ?_); (case h1 => walk_at "lk"); (case h2 => walk_at "lk"); (case h3 => exact Nat.le_of_ble_eq_true rfl); (intro p hp))
  | ((with_reducible refine' r_rep ?h1 ?h2 ?h3 ?h4 ?_); (case h1 => walk_at "lk"); (case h2 => omega); (case h3 => omega); (case h4 => exact Nat.le_of_ble_eq_true rfl); (intro p hp))
  | ((with_reducible refine' r_append ?h1 ?h2 ?_); (case h1 => walk_at "lk"); (case h2 => first | exact (show _ + 1 ≤ sizeLine from Nat.le_of_ble_eq_true rfl) | exact Nat.lt_of_le_of_lt (by omega : _ ≤ 100000) (by decide)))
  | (with_reducible refine r_bm ?_)
  | ((with_reducible refine' r_tyL ?h1 ?_); (case h1 => walk_at "lk"))
  | ((with_reducible refine' r_ixL ?h1 ?h2 ?_); (case h1 => first | assumption | exact SqL.of (by walk_at "lk")); (case h2 => exact rfl))
  | ((with_reducible refine' r_ixT ?h1 ?h2 ?_); (case h1 => first | assumption | exact SqT.of (by walk_at "lk")); (case h2 => exact rfl))
  | (with_reducible refine r_gsub ?_)
  | ((with_reducible refine' r_setL ?h1 ?h2 ?_); (case h1 => walk_at "lk"); (case h2 => exact rfl))
  | (with_reducible refine r_un ?_)
  | (with_reducible refine r_neg ?_)
  | (with_reducible refine r_iteT ?_)
  | (with_reducible refine r_iteNT ?_)
  | (with_reducible refine r_iteNF ?_)
  | (with_reducible refine r_iteF ?_)
  | (with_reducible refine r_next ?_)
  | (with_reducible refine r_drop ?_)
  | (with_reducible refine r_cont ?_)
  | (with_reducible refine r_brk ?_))
local macro_rules | `(tactic| walk_at "ty") => `(tactic| first
  | assumption
  | exact .base (.int _)
  | exact .base (.str _)
  | exact .base (.bl _)
  | exact .base .non
  | exact .byt _
  | exact .base (.lst (by walk_at "lk"))
  | exact .base (.tup (by walk_at "lk")))
local macro_rules | `(tactic| walk_at "rd2") => `(tactic| first
  | walk_at "rd1"
  | ((with_reducible refine' r_isi true ?ht ?hk ?_); (case ht => walk_at "ty"); (case hk => first | assumption | decide +kernel))
  | ((with_reducible refine' r_isi false ?ht ?hk ?_); (case ht => walk_at "ty"); (case hk => first | assumption | decide +kernel))
  | ((with_reducible refine' r_isiT2 true true ?hT ?ht ?hk ?hk2 ?_); (case hT => walk_at "lk"); (case ht => walk_at "ty"); (case hk => decide +kernel); (case hk2 => decide +kernel))
  | ((with_reducible refine' r_isiT2 true false ?hT ?ht ?hk ?hk2 ?_); (case hT => walk_at "lk"); (case ht => walk_at "ty"); (case hk => decide +kernel); (case hk2 => decide +kernel))
  | ((with_reducible refine' r_isiT2 false true ?hT ?ht ?hk ?hk2 ?_); (case hT => walk_at "lk"); (case ht => walk_at "ty"); (case hk => decide +kernel); (case hk2 => decide +kernel))
  | ((with_reducible refine' r_isiT2 false false ?hT ?ht ?hk ?hk2 ?_); (case hT => walk_at "lk"); (case ht => walk_at "ty"); (case hk => decide +kernel); (case hk2 => decide +kernel))
  | (with_reducible refine r_iteNT ?_)
  | ((show (if (!true) = true then _ else _)); refine r_iteNT ?_)
  | (with_reducible refine r_r1 ?_)
  | (with_reducible refine r_maks ?_)
  | (with_reducible refine r_sfld ?_)
  | ((with_reducible refine' r_sfldE ?h1 ?h2 ?h3 ?h4 ?_); (case h1 => walk_at "lk"); (case h2 => assumption); (case h3 => assumption); (case h4 => exact (show _ + 1 ≤ 1000 from Nat.le_of_ble_eq_true rfl)))
  | (with_reducible refine r_fld ?_)
  | (with_reducible refine r_join ?_)
  | (with_reducible refine r_jcons ?_)
  | (with_reducible refine r_jnil ?_)
  | ((with_reducible refine r_rLenY ?hz ?_); (case hz => first | assumption | (refine Nat.le_trans ?_ (by decide : 100000 ≤ sizeLine); omega)))
  | (with_reducible refine r_par ?_)
  | (with_reducible refine r_pair ?_)
  | (with_reducible refine r_par3 ?_)
  | (with_reducible refine r_trip ?_)
  | ((with_reducible refine' r_gtup ?h1 ?h2 ?_); (case h1 => first | assumption | exact SqT.of (by walk_at "lk")); (case h2 => exact rfl))
  | (with_reducible refine r_gcons ?_)
  | (with_reducible refine r_gnil ?_)
  | ((with_reducible refine' r_slL ?h1 ?_); (case h1 => first | assumption | exact SqL.of (by walk_at "lk")); (intro p hp))
  | (with_reducible refine r_iTup ?_)
  | ((with_reducible refine' r_tupE ?h1 ?_); (case h1 => first | assumption | exact SqT.of (by walk_at "lk")))
  | (with_reducible refine r_m1 ?_)
  | (with_reducible refine r_isZ ?_)
  | (with_reducible refine r_sl ?_)
  | (with_reducible refine r_noPart ?_)
  | (with_reducible refine r_part ?_)
  | (with_reducible refine r_partE ?_)
  | ((with_reducible refine r_slS ?hz ?_); (case hz => first | assumption | (refine Nat.le_trans ?_ (by decide : 100000 ≤ sizeLine); omega)))
  | ((with_reducible refine' r_inT ?h1 ?h2 ?h3 ?_); (case h1 => first | assumption | (exact SqT.of (by walk_at "lk"))); (case h2 => exact rfl); (case h3 => exact rfl))
  | ((with_reducible refine' r_inL ?h1 ?h2 ?h3 ?_); (case h1 => first | assumption | (exact SqL.of (by walk_at "lk"))); (case h2 => exact rfl); (case h3 => exact rfl))
  | (with_reducible refine r_lc ?_)
  | (with_reducible refine r_for ?_)
  | (with_reducible refine r_iStr ?_)
  | (with_reducible refine r_strE ?_)
  | (with_reducible refine r_iList ?_)
  | ((with_reducible refine' r_listE ?h1 ?_); (case h1 => first | assumption | exact SqL.of (by walk_at "lk")))
  | (with_reducible refine r_iRng1 ?_)
  | ((with_reducible refine' r_rngE ?h0 ?h1 ?_); (case h0 => first | omega | (split <;> omega)); (case h1 => first | omega | (split <;> omega))))
local macro_rules | `(tactic| walk_at "rd") => `(tactic| (repeat walk_at "rd2"))
local macro_rules | `(tactic| walk_at "st") => `(tactic| (repeat (first
  | (with_reducible refine r_gname ?_)
  | (with_reducible refine r_next ?_)
  | (with_reducible refine r_seq ?_)
  | (with_reducible refine r_asg ?_)
  | (with_reducible refine r_ret ?_)
  | (with_reducible refine r_for ?_)
  | (with_reducible refine r_iRng1 ?_)
  | (with_reducible refine r_iList ?_)
  | (with_reducible refine r_cons ?_)
  | (with_reducible refine r_par ?_)
  | (with_reducible refine r_par3 ?_))))
theorem store_KeyErrorT : PySem.StoreFacts "KeyError" [.type "KeyError", .type "LookupError", .type "Exception", .type "BaseException", .type "object"] "object.__setattr__" "object" where
  mro := by kernel_rfl
  slot := .of (owner := "object") (n := "__setattr__") (by rw [PySem.typeLookup_type, PySem.builtinLookup_eq_fast]; kernel_rfl) (by decide +kernel) (by decide +kernel) (by decide +kernel)
    (by first | exact .inl (by decide +kernel) | exact .inr (by decide +kernel)) (by rw [PySem.isSubtype_type]; kernel_rfl)
  entry := PySem.F.entry_object_sa
  kind := by decide +kernel
  split := by decide +kernel
  hasOwner := by decide +kernel
  args := fun a b c => by unfold PySem.argsOk; kernel_rfl
  passes := fun self => by kernel_rfl
/-! ### an own exception made by a call with keywords: __new__, then the own __init__ -/
namespace ExK
open PySem PySem.W PySem.Calls PyProof.Rows PySem.HandSPX
open Builtin Builtin.ObjectAttr
section
variable {M : Model} {A : Around} {E : Value → Shared → Prop} {h : Heap} {g : Array GenState} {d : Drawn} {t : Nat} {os : OsState}
variable {nm q : Str} {C N : Addr} {bs bm bmB : List Value} {hdct : Bool} {sn : List Str} {sub : List Value} {ab : Bool} {col : Option Bool} {dd : Option Addr} {k0 k1 k2 k3 k5 : Option Value} {B newId initId : String}
theorem check_new_kw (F : ExcBaseFacts B newId initId bmB) (hT : bm.contains (.type B) = true ∧ bm.contains (.type "AttributeError") = false ∧ bm.contains (.type "NameError") = false) {rest : List Value} {kw : List (Str × Value)} {Q : Unit → Shared → Prop}
    (hC : h.get? C = some (excClassObj nm q C N bs bm hdct sn sub ab col dd k0 k1 k2 k3 k5 newId)) (hq : Q () ⟨h, g, d, t, os⟩) : wpAny M A (checkBuiltinCall newId ⟨.ref C :: rest, kw⟩) Q E ⟨h, g, d, t, os⟩ := by
  have hcont : (Value.ref C :: bm).contains (.type B) = true := by rw [List.contains_cons, hT.1, Bool.or_true]
  have hstar := F.noStar
  simp only [checkBuiltinCall, F.newKind, F.newSplit, F.newRow]
  repeat (first | refine wpAny_loadPart_at hC ?_ | (refine wpAny_isSubtype_exc hC ?_; rw [hcont]) | refine wpAny_staticBase_exc hC ?_ | refine wpAny_madeBy_exc hC ?_ | simp only [bne_self_eq_false, Bool.false_eq_true, if_false] | wp_step)
  exact hq
end
section
variable {prog : Program} {w : World} {A : Around} {E : Value → Shared → Prop} {R : Result → Shared → Prop} {h : Heap} {g : Array GenState} {d : Drawn} {t : Nat} {os : OsState}
variable {nm q : Str} {C N : Addr} {bs bm bmB : List Value} {hdct : Bool} {sn : List Str} {sub : List Value} {ab : Bool} {col : Option Bool} {dd : Option Addr} {k0 k1 k2 k3 k5 : Option Value} {B newId initId : String}
theorem new_kw (F : ExcBaseFacts B newId initId bmB) (hT : bm.contains (.type B) = true ∧ bm.contains (.type "AttributeError") = false ∧ bm.contains (.type "NameError") = false) {rest : List Value} {kw : List (Str × Value)}
    (hC : h.get? C = some (excClassObj nm q C N bs bm hdct sn sub ab col dd k0 k1 k2 k3 k5 newId))
    (hq : R (.ok (.ret (.ref (h.objs.size + 1)))) ⟨(h.push { cls := .type "tuple", data := .seq rest.toArray }).push
      { cls := .ref C, data := .fields #[.ref h.objs.size, .none, .none, .none, .bool false, .none] }, g, d, t, os⟩) (hrest : rest.length ≤ sizeLine) :
    codeAny (model prog w) A (.builtin newId ⟨.ref C :: rest, kw⟩) R ⟨h, g, d, t, os⟩ := by
  have hends := F.ends
  have hcB : (Value.ref C :: bm).contains (.type B) = true := by rw [List.contains_cons, hT.1, Bool.or_true]
  have hcA : (Value.ref C :: bm).contains (.type "AttributeError") = false := by rw [List.contains_cons, hT.2.1]; rfl
  have hcN : (Value.ref C :: bm).contains (.type "NameError") = false := by rw [List.contains_cons, hT.2.2]; rfl
  refine codeAny_builtinAt F.entry ?_
  unfold Builtin.«BaseException.__new__»
  refine PySem.wpAt_bind ?_
  show PySem.wpAt _ _ _ (stack >>= _) _ _ _
  refine PySem.wpAt_bind (PySem.wpAt_stack fun p below => PySem.wpAt_of_wpAny ?_)
  wp_walk
  refine PySem.wpAt_of_wpAny ?_
  rw [F.owner]
  repeat (first | with_reducible refine wpAny_madeHere_exc F.canon hC ?_ | with_reducible refine wpAny_loadPart_at hC ?_ | (with_reducible refine wpAny_isSubtype_exc hC ?_; first | rw [hcB] | rw [hcA] | rw [hcN]) | wp_step)
  show R _ _
  rw [Heap.size_push]
  exact hq
theorem type_call_kw (F : ExcBaseFacts B newId initId bmB) (hT : bm.contains (.type B) = true ∧ bm.contains (.type "AttributeError") = false ∧ bm.contains (.type "NameError") = false) {rest : List Value} {kw : List (Str × Value)} {fI : Addr} {Q : Fin → Shared → Prop}
    (hC : h.get? C = some (excClassObj nm q C N bs bm hdct sn sub ab col dd k0 k1 k2 k3 k5 newId))
    (hi : W.Looks (model prog w) h (typeLookup (.ref C) "__init__") (some (.ref fI))) (hb : ∀ self, W.Looks (model prog w) h (bindSpecial (.ref fI) self) (.ref fI, [self])) (hrest : rest.length ≤ sizeLine)
    (hq : codeAny (model prog w) A (.call (.ref fI) ⟨.ref (h.objs.size + 1) :: rest, kw⟩)
      (fun r s' => match r with | .ok (.ret v) => v = .none ∧ Q (.done (.ret (.ref (h.objs.size + 1)))) s' | .ok _ => False | .error e => E e s')
      ⟨(h.push (W.kdv_tup rest)).push (excO C h.objs.size), g, d, t, os⟩) :
    wpAny (model prog w) A (Builtin.«type.__call__» ⟨.ref C :: rest, kw⟩) Q E ⟨h, g, d, t, os⟩ := by
  repeat (first | with_reducible refine wpAny_loadPart_at hC ?_ | with_reducible refine wpAny_madeBy_exc hC ?_ | wp_step)
  refine codeAny_call_builtin_code (Code.quiet_builtin _ F.quiet) (check_new_kw F hT hC ?_)
  refine new_kw F hT hC ?_ hrest
  show wpAny _ _ _ _ _ _
  have k : ∀ b o, h.get? b = some o → ((h.push (W.kdv_tup rest)).push (excO C h.objs.size)).get? b = some o := fun b o e => Heap.get?_push_of_some _ (Heap.get?_push_of_some _ e)
  have hC₁ := k _ _ hC
  have hget : ((h.push (W.kdv_tup rest)).push (excO C h.objs.size)).get? (h.objs.size + 1) = some (excO C h.objs.size) := by heap_get
  have hcC : (Value.ref C :: bm).contains (.ref C) = true := by simp
  have i1 := hi.keeps k
  have b1 := (hb (.ref (h.objs.size + 1))).keeps k
  unfold isInstance
  repeat (first | with_reducible refine wpAny_loadPart_at hget ?_ | (with_reducible refine wpAny_isSubtype_exc hC₁ ?_; rw [hcC]) | wp_step)
  show wpAny _ _ (typeLookup (.ref C) _) _ _ _
  refine i1.at ?_
  refine wpAny_holding (wpAny_bind (b1.at ?_))
  refine wpAny_bind (wpAny_call (codeAny_mono hq fun r s' z => ?_))
  rcases r with e | (v | _ | _ | _) <;> first | exact z | exact z.elim | skip
  obtain ⟨rfl, z⟩ := z
  first
    | exact wpAny_pure (wpAny_pure z)
    | (wp_walk; exact z)
theorem call_kw (F : ExcBaseFacts B newId initId bmB) (hT : bm.contains (.type B) = true ∧ bm.contains (.type "AttributeError") = false ∧ bm.contains (.type "NameError") = false) {rest : List Value} {kw : List (Str × Value)} {fI : Addr}
    (hC : h.get? C = some (excClassObj nm q C N bs bm hdct sn sub ab col dd k0 k1 k2 k3 k5 newId))
    (hi : W.Looks (model prog w) h (typeLookup (.ref C) "__init__") (some (.ref fI))) (hb : ∀ self, W.Looks (model prog w) h (bindSpecial (.ref fI) self) (.ref fI, [self])) (hrest : rest.length ≤ sizeLine)
    (hq : codeAny (model prog w) (A.under (.builtin "type.__call__" ⟨.ref C :: rest, kw⟩)) (.call (.ref fI) ⟨.ref (h.objs.size + 1) :: rest, kw⟩) (W.InitBack (h.objs.size + 1) R)
      ⟨(h.push (W.kdv_tup rest)).push (excO C h.objs.size), g, d, t, os⟩) :
    codeAny (model prog w) A (.call (.ref C) ⟨rest, kw⟩) R ⟨h, g, d, t, os⟩ := by
  have f1 := tc_lookup
  have f2 := tc_bind (.ref C)
  have hTy : (⟨h, g, d, t, os⟩ : Shared).TypeIs (.ref C) "type" := ⟨_, hC, rfl⟩
  refine codeAny_of_tree ?_
  show wpAny _ _ (callAny (.ref C) _) _ _ _
  repeat (any_goals (first | assumption | with_reducible refine wpAny_loadPart_at hC ?_ | wp_step))
  refine ⟨rfl, ?_⟩
  refine codeAny_call_builtin_at (Code.quiet_builtin _ (by decide +kernel)) entry_typeCall (wpAny_check_type_call_sub hC (type_call_kw F hT hC hi hb hrest ?_))
  refine codeAny_mono hq fun r s' z => ?_
  rcases r with e | (v | _ | _ | _) <;> exact z
end
end ExK
end Th
namespace Th
open PySem PySem.Spec PyProof.Rows L2
local macro_rules | `(tactic| walk_at "lk") => `(tactic| first
  | assumption
  | exact upd_same
  | (refine upd_old (by assumption) ?_; walk_at "lk")
  | (refine upd_diff (by assumption) ?_; walk_at "lk")
  | (refine upd_diff (Ne.symm (by assumption)) ?_; walk_at "lk"))
local macro_rules | `(tactic| walk_at "cnd") => `(tactic| first
  | omega
  | (refine ⟨by omega, by omega⟩)
  | (refine ⟨by omega, by omega, by omega⟩)
  | (refine .inl ⟨by omega, by omega⟩)
  | (refine .inr ⟨by omega, by omega⟩)
  | (exact (show CPow _ _ from ⟨by decide, by decide, by omega⟩))
  | decide +kernel
  | (unfold CMulW; decide +kernel)
  | (exact wide_div (b := 64) (by omega) (by omega) (by decide) (by decide)))
local macro_rules | `(tactic| walk_at "rd1") => `(tactic| first
  | (with_reducible refine r_seq ?_)
  | (with_reducible refine r_asg ?_)
  | (with_reducible refine r_ret ?_)
  | (with_reducible refine r_if ?_)
  | (with_reducible refine r_gname ?_)
  | ((with_reducible refine' r_var ?hv ?_); (case hv => exact rfl))
  | (with_reducible refine r_c ?_)
  | (with_reducible refine r_op ?_)
  | (with_reducible refine r_I0 ?_)
  | ((with_reducible refine r_I ?hc ?_); (case hc => walk_at "cnd"))
  | (with_reducible refine r_test ?_)
  | (with_reducible refine r_tB ?_)
  | (with_reducible refine r_bl ?_)
  | (with_reducible refine r_not ?_)
  | (with_reducible refine r_and ?_)
  | (with_reducible refine r_or ?_)
  | (with_reducible refine r_ifE ?_)
  | (with_reducible refine r_notV ?_)
  | (with_reducible refine r_andV ?_)
  | (with_reducible refine r_orV ?_)
  | (with_reducible refine r_chain ?_)
  | (with_reducible refine r_cb ?_)
  | (with_reducible refine r_call ?_)
  | (with_reducible refine r_callN ?_)
  | (with_reducible refine r_nil ?_)
  | (with_reducible refine r_cons ?_)
  | ((with_reducible refine r_lst ?_))
  | ((with_reducible refine r_tup ?_))
  | ((with_reducible refine r_new ?_ ?_); (exact Nat.le_of_ble_eq_true rfl); (intro p hp))
  | (with_reducible refine r_rInt1 ?_)
  | (with_reducible refine r_rIntB ?_)
  | (with_reducible refine r_rAbs ?_)
  | (with_reducible refine r_rMin2 ?_)
  | (with_reducible refine r_rMax2 ?_)
  | ((with_reducible refine r_rLenZ ?hz ?_); (case hz => first | assumption | exact Nat.le_of_ble_eq_true rfl | (refine Nat.le_trans ?_ (by decide : 100000 ≤ sizeLine); omega)))
  | ((with_reducible refine r_addZ ?hz ?_); (case hz => (refine Nat.le_trans ?_ (by decide : 100000 ≤ sizeLine); first | omega | (simp only [Str.length] at *; simp; omega))))
  | ((with_reducible refine r_mulZ ?hz ?h0 ?h1 ?_); (case hz => first | omega | exact Nat.le_of_ble_eq_true rfl); (case h0 => omega); (case h1 => omega))
  | ((with_reducible refine' r_rLenQ ?h1 ?_); (case h1 => first | (exact .inl (by assumption)) | (exact .inr (by assumption)) | (exact .inl (SqL.of (by walk_at "lk"))) | (exact .inr (SqT.of (by walk_at "lk")))))
  | ((with_reducible refine r_eq ?hs ?_); (case hs => exact rfl))
  | ((with_reducible refine r_ne ?hs ?_); (case hs => exact rfl))
  | (with_reducible refine r_inC ?_)
  | ((with_reducible refine' r_cat ?h1 ?h2 ?h3 ?_); (case h1 => walk_at "lk"); (case h2 => walk_at "lk"); (case h3 => exact Nat.le_of_ble_eq_true rfl); (intro p hp))
  | ((with_reducible refine' r_rep ?h1 ?h2 ?h3 ?h4 ?_); (case h1 => walk_at "lk"); (case h2 => omega); (case h3 => omega); (case h4 => exact Nat.le_of_ble_eq_true rfl); (intro p hp))
  | ((with_reducible refine' r_append ?h1 ?h2 ?_); (case h1 => walk_at "lk"); (case h2 => first | exact (show _ + 1 ≤ sizeLine from Nat.le_of_ble_eq_true rfl) | exact Nat.lt_of_le_of_lt (by omega : _ ≤ 100000) (by decide)))
  | (with_reducible refine r_bm ?_)
  | ((with_reducible refine' r_tyL ?h1 ?_); (case h1 => walk_at "lk"))
  | ((with_reducible refine' r_ixL ?h1 ?h2 ?_); (case h1 => first | assumption | exact SqL.of (by walk_at "lk")); (case h2 => exact rfl))
  | ((with_reducible refine' r_ixT ?h1 ?h2 ?_); (case h1 => first | assumption | exact SqT.of (by walk_at "lk")); (case h2 => exact rfl))
  | (with_reducible refine r_gsub ?_)
  | ((with_reducible refine' r_setL ?h1 ?h2 ?_); (case h1 => walk_at "lk"); (case h2 => exact rfl))
  | (with_reducible refine r_un ?_)
  | (with_reducible refine r_neg ?_)
  | (with_reducible refine r_iteT ?_)
  | (with_reducible refine r_iteNT ?_)
  | (with_reducible refine r_iteNF ?_)
  | (with_reducible refine r_iteF ?_)
  | (with_reducible refine r_next ?_)
  | (with_reducible refine r_drop ?_)
  | (with_reducible refine r_cont ?_)
  | (with_reducible refine r_brk ?_))
local macro_rules | `(tactic| walk_at "ty") => `(tactic| first
  | assumption
  | exact .base (.int _)
  | exact .base (.str _)
  | exact .base (.bl _)
  | exact .base .non
  | exact .byt _
  | exact .base (.lst (by walk_at "lk"))
  | exact .base (.tup (by walk_at "lk")))
local macro_rules | `(tactic| walk_at "rd2") => `(tactic| first
  | walk_at "rd1"
  | ((with_reducible refine' r_isi true ?ht ?hk ?_); (case ht => walk_at "ty"); (case hk => first | assumption | decide +kernel))
  | ((with_reducible refine' r_isi false ?ht ?hk ?_); (case ht => walk_at "ty"); (case hk => first | assumption | decide +kernel))
  | ((with_reducible refine' r_isiT2 true true ?hT ?ht ?hk ?hk2 ?_); (case hT => walk_at "lk"); (case ht => walk_at "ty"); (case hk => decide +kernel); (case hk2 => decide +kernel))
  | ((with_reducible refine' r_isiT2 true false ?hT ?ht ?hk ?hk2 ?_); (case hT => walk_at "lk"); (case ht => walk_at "ty"); (case hk => decide +kernel); (case hk2 => decide +kernel))
  | ((with_reducible refine' r_isiT2 false true ?hT ?ht ?hk ?hk2 ?_); (case hT => walk_at "lk"); (case ht => walk_at "ty"); (case hk => decide +kernel); (case hk2 => decide +kernel))
  | ((with_reducible refine' r_isiT2 false false ?hT ?ht ?hk ?hk2 ?_); (case hT => walk_at "lk"); (case ht => walk_at "ty"); (case hk => decide +kernel); (case hk2 => decide +kernel))
  | (with_reducible refine r_iteNT ?_)
  | ((show (if (!true) = true then _ else _)); refine r_iteNT ?_)
  | (with_reducible refine r_r1 ?_)
  | (with_reducible refine r_maks ?_)
  | (with_reducible refine r_sfld ?_)
  | ((with_reducible refine' r_sfldE ?h1 ?h2 ?h3 ?h4 ?_); (case h1 => walk_at "lk"); (case h2 => assumption); (case h3 => assumption); (case h4 => exact (show _ + 1 ≤ 1000 from Nat.le_of_ble_eq_true rfl)))
  | (with_reducible refine r_fld ?_)
  | (with_reducible refine r_join ?_)
  | (with_reducible refine r_jcons ?_)
  | (with_reducible refine r_jnil ?_)
  | ((with_reducible refine r_rLenY ?hz ?_); (case hz => first | assumption | (refine Nat.le_trans ?_ (by decide : 100000 ≤ sizeLine); omega)))
  | (with_reducible refine r_par ?_)
  | (with_reducible refine r_pair ?_)
  | (with_reducible refine r_par3 ?_)
  | (with_reducible refine r_trip ?_)
  | ((with_reducible refine' r_gtup ?h1 ?h2 ?_); (case h1 => first | assumption | exact SqT.of (by walk_at "lk")); (case h2 => exact rfl))
  | (with_reducible refine r_gcons ?_)
  | (with_reducible refine r_gnil ?_)
  | ((with_reducible refine' r_slL ?h1 ?_); (case h1 => first | assumption | exact SqL.of (by walk_at "lk")); (intro p hp))
  | (with_reducible refine r_iTup ?_)
  | ((with_reducible refine' r_tupE ?h1 ?_); (case h1 => first | assumption | exact SqT.of (by walk_at "lk")))
  | (with_reducible refine r_m1 ?_)
  | (with_reducible refine r_isZ ?_)
  | (with_reducible refine r_sl ?_)
  | (with_reducible refine r_noPart ?_)
  | (with_reducible refine r_part ?_)
  | (with_reducible refine r_partE ?_)
  | ((with_reducible refine r_slS ?hz ?_); (case hz => first | assumption | (refine Nat.le_trans ?_ (by decide : 100000 ≤ sizeLine); omega)))
  | ((with_reducible refine' r_inT ?h1 ?h2 ?h3 ?_); (case h1 => first | assumption | (exact SqT.of (by walk_at "lk"))); (case h2 => exact rfl); (case h3 => exact rfl))
  | ((with_reducible refine' r_inL ?h1 ?h2 ?h3 ?_); (case h1 => first | assumption | (exact SqL.of (by walk_at "lk"))); (case h2 => exact rfl); (case h3 => exact rfl))
  | (with_reducible refine r_lc ?_)
  | (with_reducible refine r_for ?_)
  | (with_reducible refine r_iStr ?_)
  | (with_reducible refine r_strE ?_)
  | (with_reducible refine r_iList ?_)
  | ((with_reducible refine' r_listE ?h1 ?_); (case h1 => first | assumption | exact SqL.of (by walk_at "lk")))
  | (with_reducible refine r_iRng1 ?_)
  | ((with_reducible refine' r_rngE ?h0 ?h1 ?_); (case h0 => first | omega | (split <;> omega)); (case h1 => first | omega | (split <;> omega))))
local macro_rules | `(tactic| walk_at "rd") => `(tactic| (repeat walk_at "rd2"))
local macro_rules | `(tactic| walk_at "st") => `(tactic| (repeat (first
  | (with_reducible refine r_gname ?_)
  | (with_reducible refine r_next ?_)
  | (with_reducible refine r_seq ?_)
  | (with_reducible refine r_asg ?_)
  | (with_reducible refine r_ret ?_)
  | (with_reducible refine r_for ?_)
  | (with_reducible refine r_iRng1 ?_)
  | (with_reducible refine r_iList ?_)
  | (with_reducible refine r_cons ?_)
  | (with_reducible refine r_par ?_)
  | (with_reducible refine r_par3 ?_))))
/-! ### storing into an exception -/
namespace ExK
open PySem PySem.W PySem.Calls PySem.HandSPX
open Builtin Builtin.ObjectAttr
section
variable {prog : Program} {w : World} {A : Around} {E : Value → Shared → Prop} {R : Result → Shared → Prop} {hp : Heap} {g : Array GenState} {d : Drawn} {t : Nat} {os : OsState}
theorem taker_none {K : PySem.W.Frag} {C : Addr} {f : Str} (h : PySem.W.findIn K (.ref C) f = some none) : PySem.W.takerIn K C f = some none := by
  unfold PySem.W.takerIn
  rw [h]
  rfl
theorem exc_osaG {K : PySem.W.Frag} {name : Str} {tk : Tok} {v : Value} {x C : Addr} {fv : Array Value} {B : String} {bmB : List Value} (SF : StoreFacts B bmB "object.__setattr__" "object")
    (X : K.In hp) (hx : hp.get? x = some { cls := .ref C, data := .fields fv }) (hov : PySem.W.excOver K C bmB = true) (hh : PySem.W.hasDictIn K C = true) (ha : PySem.W.findIn K (.ref C) name = some none)
    (hq : ∀ h' tk' dx, (∀ b o, b ≠ x → hp.get? b = some o → h'.get? b = some o) → hp.objs.size ≤ dx → dx ≠ x → h'.get? x = some { cls := .ref C, dict := some dx, data := .fields fv } →
      h'.Ns1 dx (fun y => if y = name then some v else none) → R (.ok (.ret .none)) ⟨h', g, d, tk', os⟩) :
    codeAny (model prog w) A (.call (.builtin "object.__setattr__") ⟨[.ref x, .str name tk, v], []⟩) R ⟨hp, g, d, t, os⟩ := by
  obtain ⟨cd, hcd, hh'⟩ := any_some hh
  have I : PySem.W.InstAt hp x { cls := .ref C, data := .fields fv } C none := ⟨hx, rfl, rfl, trivial⟩
  have hxs : x ≠ hp.objs.size := Nat.ne_of_lt (Heap.lt_size hx)
  have hcls : PySem.W.Looks (model prog w) hp (classData C) cd := PySem.W.looks_clsIn X hcd
  refine osa_openX (r := none) SF X I hov (taker_none ha) (fun b => ?_)
  show wpAny _ _ (storeInOwnDict (.ref x) (.ref C) (.str name tk) name v b) _ _ _
  obtain ⟨nm, bs, mro, ns, qn, hd, sn, sb, ab, col, del⟩ := cd
  dsimp only at hh'
  subst hh'
  unfold storeInOwnDict ownDictForStores
  repeat (first | with_reducible refine store_in_new ?_ ?_ | with_reducible refine wpAny_loadPart_at hx ?_ | with_reducible refine hcls.at ?_ | wp_step)
  · exact ⟨_, #[], _, (Heap.get?_update_ne _ _ _ _ hxs.symm).trans (Heap.get?_push_at rfl rfl), rfl, fun e he => absurd he (by simp), fun _ => rfl⟩
  · intro h' tk' hn' hs
    have hx₁ : (hp.push { cls := .type "dict", data := .dict #[] }).get? x = some { cls := .ref C, data := .fields fv } := Heap.get?_push_of_some _ hx
    refine hq h' tk' hp.objs.size (fun b o hb ho => ?_) (Nat.le_refl _) hxs.symm ?_ hn'
    · exact (hs.2 b (Nat.ne_of_lt (Heap.lt_size ho))).trans ((Heap.get?_update_ne _ _ _ _ hb).trans (Heap.get?_push_of_some _ ho))
    · exact (hs.2 x hxs).trans (Heap.get?_update_self _ hx₁ rfl)
theorem exc_oldG {K : PySem.W.Frag} {name : Str} {tk : Tok} {v : Value} {x C dx : Addr} {fv : Array Value} {m0 : Str → Option Value} {nl : List Str} {B : String} {bmB : List Value} (SF : StoreFacts B bmB "object.__setattr__" "object")
    (X : K.In hp) (hx : hp.get? x = some { cls := .ref C, dict := some dx, data := .fields fv }) (hns : hp.Ns1 dx m0) (hw : Within m0 nl) (hz : nl.length ≤ 1000) (hov : PySem.W.excOver K C bmB = true) (hh : PySem.W.hasDictIn K C = true)
    (ha : PySem.W.findIn K (.ref C) name = some none)
    (hq : ∀ h' tk', (∀ b o, b ≠ dx → hp.get? b = some o → h'.get? b = some o) → h'.Ns1 dx (fun y => if y = name then some v else m0 y) → R (.ok (.ret .none)) ⟨h', g, d, tk', os⟩) :
    codeAny (model prog w) A (.call (.builtin "object.__setattr__") ⟨[.ref x, .str name tk, v], []⟩) R ⟨hp, g, d, t, os⟩ := by
  obtain ⟨cd, hcd, hh'⟩ := any_some hh
  obtain ⟨oD, esD, epD, hoD, hdD, _⟩ := hns.count hw
  have I : PySem.W.InstAt hp x { cls := .ref C, dict := some dx, data := .fields fv } C (some oD) := ⟨hx, rfl, rfl, hoD⟩
  have hcls : PySem.W.Looks (model prog w) hp (classData C) cd := PySem.W.looks_clsIn X hcd
  refine osa_openX (r := none) SF X I hov (taker_none ha) (fun b => ?_)
  show wpAny _ _ (storeInOwnDict (.ref x) (.ref C) (.str name tk) name v b) _ _ _
  obtain ⟨nm, bs, mro, ns, qn, hd, sn, sb, ab, col, del⟩ := cd
  dsimp only at hh'
  subst hh'
  unfold storeInOwnDict ownDictForStores
  repeat (first | with_reducible refine PySem.OEX.store_in_old hns hw hz ?_ | with_reducible refine wpAny_loadPart_at hx ?_ | with_reducible refine hcls.at ?_ | wp_step)
  intro h' tk' hn' hs
  exact hq h' tk' (fun b o hb ho => (hs.2 b hb).trans ho) hn'
end
end ExK
/-! ### own exceptions as values -/
structure ExG (K : PySem.W.Frag) (C fI : Addr) : Prop where
  b : ∃ (B newId initId : String) (bmA : List Value) (B' : String) (bmB : List Value), PySem.ExcBaseFacts B newId initId bmA ∧ PySem.StoreFacts B' bmB "object.__setattr__" "object" ∧ PySem.W.excInitIn K C bmB newId = true ∧ PySem.W.excOver K C bmB = true ∧
    bmB.contains (.type B) = true ∧ bmB.contains (.type "AttributeError") = false ∧ bmB.contains (.type "NameError") = false
  sa : PySem.W.findIn K (.ref C) "__setattr__" = some (some (.builtin "object.__setattr__"))
  iC : PySem.W.findIn K (.ref C) "__init__" = some (some (.ref fI))
  tI : PySem.W.typeIn K (.ref fI) = some (.type "function")
  kC : PySem.W.keepIn K (.ref C) = true
  ga : PySem.W.findIn K (.ref C) "__getattribute__" = some (some (.builtin "BaseException.__getattribute__"))
  gg : PySem.W.findIn K (.ref C) "__getattr__" = some none
  exC : PySem.W.subIn K (.ref C) (.type "BaseException") = some true
  hd : PySem.W.hasDictIn K C = true
  ha : PySem.W.findIn K (.ref C) "__class__" = some (some (.builtin "object.__class__"))
  hn : PySem.W.specialIn K (.builtin "object.__class__") "__get__" = some (some (.builtin "getset_descriptor.__get__"))
  ht : PySem.W.takesIn K (.builtin "object.__class__") = some true
  hm : PySem.W.mroIn K C (.type "object") = some true
section
variable {X : Cx} {pins : List (Addr × Obj)} {σ : L2.St} {H : Hp} {s : Shared} {a C fI dx : Addr} {f : Str} {y : V} {u : Value} {fs : List (Str × V)} {Q : Unit → Shared → Prop} {E : Value → Shared → Prop} {A : Around}
theorem ost_newG (T : ExG X.K C fI) (I : Inv X pins σ H s) (e : H a = some (exo a C none)) (hno : PySem.W.findIn X.K (.ref C) f = some none) (ry : RelV y u)
    (h : ∀ dx s', H dx = none → dx ≠ a → Inv X pins σ (upd (upd H dx (exd dx [(f, y)])) a (exo a C (some dx))) s' → Q () s') : wpAny (model X.prog X.w) A (setAttr (.ref a) f u) Q E s := by
  obtain ⟨B, newId, initId, bmA, B', bmB, FB, SF, hin, hov, _⟩ := T.b
  obtain ⟨t1, ho⟩ := exo_at I.hok e
  obtain ⟨hp, g, d, t, os⟩ := s
  refine PySem.W.set_plain I.kIn (ox := { cls := .ref C, dict := none, data := .fields #[.ref t1, .none, .none, .none, .bool false, .none] }) (od := none) ⟨ho, rfl, rfl, trivial⟩ T.sa ?_
  refine ExK.exc_osaG SF I.kIn ho hov T.hd hno (fun h' tk' dx k dn dne hx hn => ?_)
  have hnd : H dx = none := I.hok.fresh dn
  have nd : ∀ {b : Addr} {o : Obj}, hp.get? b = some o → b ≠ dx := fun {b o} q => Nat.ne_of_lt (Nat.lt_of_lt_of_le (Heap.lt_size q) dn)
  have na : ∀ {b : Addr}, H b = none → b ≠ a := fun {b} n z => by
    rw [z, e] at n
    cases n
  have Un1 : Un X.fs [] H (upd (upd H dx (exd dx [(f, y)])) a (exo a C (some dx))) hp h' := {
    keep := fun b o q n _ _ => k b o (na n) q
    slot := fun b o q n _ _ => ⟨o.slots, k b o (na n) q⟩
    free := fun b o q n _ => by rw [upd_ne (na n), upd_ne (nd q)]; exact n
    there := fun b o q _ => by
      by_cases hb : b = a
      · exact ⟨_, by rw [hb]; exact hx⟩
      · exact ⟨o, k b o hb q⟩
    tups := fun b xs q => by rw [upd_ne (at_ne e q exo_tup), upd_ne (ne_of_none q hnd)]; exact q
    frzs := fun b o v q => by rw [upd_ne (at_ne e q exo_frz), upd_ne (ne_of_none q hnd)]; exact q
    tbls := fun b ps q => ⟨#[], by rw [upd_ne (at_ne e q exo_tbl), upd_ne (ne_of_none q hnd), q]; simp⟩ }
  refine h dx _ hnd dne (I.un (t' := tk') Un1 fun b o q => ?_)
  by_cases hb : b = a
  · subst hb
    rw [upd_same] at q
    cases q
    exact exo_ok hx
  · rw [upd_ne hb] at q
    by_cases hd : b = dx
    · subst hd
      rw [upd_same] at q
      cases q
      exact exd_ok hn (relO_put (fs := []) ry fun g => True.intro)
    · rw [upd_ne hd] at q
      exact (I.hok b o q).stay (fun c v hc z => k c v (by
          rcases hc with hc | hc
          · rw [hc]
            exact hb
          · exact at_ne e hc exo_own) z)
        (fun c hc => by rw [upd_ne (at_ne e hc exo_own), upd_ne (ne_of_none hc hnd)]; exact hc) (fun c xs hc => by rw [upd_ne (at_ne e hc exo_tup), upd_ne (ne_of_none hc hnd)]; exact hc)
theorem ost_oldG (T : ExG X.K C fI) (I : Inv X pins σ H s) (e : H a = some (exo a C (some dx))) (ed : H dx = some (exd dx fs)) (hl : fs.length ≤ 900) (hno : PySem.W.findIn X.K (.ref C) f = some none) (ry : RelV y u)
    (h : ∀ s', Inv X pins σ (upd H dx (exd dx ((f, y) :: fs))) s' → Q () s') : wpAny (model X.prog X.w) A (setAttr (.ref a) f u) Q E s := by
  obtain ⟨B, newId, initId, bmA, B', bmB, FB, SF, hin, hov, _⟩ := T.b
  obtain ⟨t1, ho⟩ := exo_at I.hok e
  obtain ⟨mA, hns, rel⟩ := exd_at I.hok ed
  have hw := within_of rel
  obtain ⟨hp, g, d, t, os⟩ := s
  obtain ⟨oD, _, _, hoD, _, _⟩ := hns.count hw
  refine PySem.W.set_plain I.kIn (ox := { cls := .ref C, dict := some dx, data := .fields #[.ref t1, .none, .none, .none, .bool false, .none] }) (od := some oD) ⟨ho, rfl, rfl, hoD⟩ T.sa ?_
  refine ExK.exc_oldG SF I.kIn ho hns hw (by rw [List.length_map]; omega) hov T.hd hno (fun h' tk' k hn => ?_)
  have hd : ∃ o, h'.get? dx = some o := by
    obtain ⟨o, _, _, e', _⟩ := hn
    exact ⟨o, e'⟩
  exact h _ (I.write (t' := tk') (x := dx) (e := dx) (o := exd dx ((f, y) :: fs)) (by rw [ed]; exact True.intro) (.inl rfl) k hd (exd_ok hn (relO_put ry rel)))
end
end Th
namespace Th
open PySem PySem.Spec PyProof.Rows L2
local macro_rules | `(tactic| walk_at "lk") => `(tactic| first
  | assumption
  | exact upd_same
  | (refine upd_old (by assumption) ?_; walk_at "lk")
  | (refine upd_diff (by assumption) ?_; walk_at "lk")
  | (refine upd_diff (Ne.symm (by assumption)) ?_; walk_at "lk"))
local macro_rules | `(tactic| walk_at "cnd") => `(tactic| first
  | omega
  | (refine ⟨by omega, by omega⟩)
  | (refine ⟨by omega, by omega, by omega⟩)
  | (refine .inl ⟨by omega, by omega⟩)
  | (refine .inr ⟨by omega, by omega⟩)
  | (exact (show CPow _ _ from ⟨by decide, by decide, by omega⟩))
  | decide +kernel
  | (unfold CMulW; decide +kernel)
  | (exact wide_div (b := 64) (by omega) (by omega) (by decide) (by decide)))
local macro_rules | `(tactic| walk_at "rd1") => `(tactic| first
  | (with_reducible refine r_seq ?_)
  | (with_reducible refine r_asg ?_)
  | (with_reducible refine r_ret ?_)
  | (with_reducible refine r_if ?_)
  | (with_reducible refine r_gname ?_)
  | ((with_reducible refine' r_var ?hv ?_); (case hv => exact rfl))
  | (with_reducible refine r_c ?_)
  | (with_reducible refine r_op ?_)
  | (with_reducible refine r_I0 ?_)
  | ((with_reducible refine r_I ?hc ?_); (case hc => walk_at "cnd"))
  | (with_reducible refine r_test ?_)
  | (with_reducible refine r_tB ?_)
  | (with_reducible refine r_bl ?_)
  | (with_reducible refine r_not ?_)
  | (with_reducible refine r_and ?_)
  | (with_reducible refine r_or ?_)
  | (with_reducible refine r_ifE ?_)
  | (with_reducible refine r_notV ?_)
  | (with_reducible refine r_andV ?_)
  | (with_reducible refine r_orV ?_)
  | (with_reducible refine r_chain ?_)
  | (with_reducible refine r_cb ?_)
  | (with_reducible refine r_call ?_)
  | (with_reducible refine r_callN ?_)
  | (with_reducible refine r_nil ?_)
  | (with_reducible refine r_cons ?_)
  | ((with_reducible refine r_lst ?_))
  | ((with_reducible refine r_tup ?_))
  | ((with_reducible refine r_new ?_ ?_); (exact Nat.le_of_ble_eq_true rfl); (intro p hp))
  | (with_reducible refine r_rInt1 ?_)
  | (with_reducible refine r_rIntB ?_)
  | (with_reducible refine r_rAbs ?_)
  | (with_reducible refine r_rMin2 ?_)
  | (with_reducible refine r_rMax2 ?_)
  | ((with_reducible refine r_rLenZ ?hz ?_); (case hz => first | assumption | exact Nat.le_of_ble_eq_true rfl | (refine Nat.le_trans ?_ (by decide : 100000 ≤ sizeLine); omega)))
  | ((with_reducible refine r_addZ ?hz ?_); (case hz => (refine Nat.le_trans ?_ (by decide : 100000 ≤ sizeLine); first | omega | (simp only [Str.length] at *; simp; omega))))
  | ((with_reducible refine r_mulZ ?hz ?h0 ?h1 ?_); (case hz => first | omega | exact Nat.le_of_ble_eq_true rfl); (case h0 => omega); (case h1 => omega))
  | ((with_reducible refine' r_rLenQ ?h1 ?_); (case h1 => first | (exact .inl (by assumption)) | (exact .inr (by assumption)) | (exact .inl (SqL.of (by walk_at "lk"))) | (exact .inr (SqT.of (by walk_at "lk")))))
  | ((with_reducible refine r_eq ?hs ?_); (case hs => exact rfl))
  | ((with_reducible refine r_ne ?hs ?_); (case hs => exact rfl))
  | (with_reducible refine r_inC ?_)
  | ((with_reducible refine' r_cat ?h1 ?h2 ?h3 ?_); (case h1 => walk_at "lk"); (case h2 => walk_at "lk"); (case h3 => exact Nat.le_of_ble_eq_true rfl); (intro p hp))
  | ((with_reducible refine' r_rep ?h1 ?h2 ?h3 ?h4 ?_); (case h1 => walk_at "lk"); (case h2 => omega); (case h3 => omega); (case h4 => exact Nat.le_of_ble_eq_true rfl); (intro p hp))
  | ((with_reducible refine' r_append ?h1 ?h2 ?_); (case h1 => walk_at "lk"); (case h2 => first | exact (show _ + 1 ≤ sizeLine from Nat.le_of_ble_eq_true rfl) | exact Nat.lt_of_le_of_lt (by omega : _ ≤ 100000) (by decide)))
  | (with_reducible refine r_bm ?_)
  | ((with_reducible refine' r_tyL ?h1 ?_); (case h1 => walk_at "lk"))
  | ((with_reducible refine' r_ixL ?h1 ?h2 ?_); (case h1 => first | assumption | exact SqL.of (by walk_at "lk")); (case h2 => exact rfl))
  | ((with_reducible refine' r_ixT ?h1 ?h2 ?_); (case h1 => first | assumption | exact SqT.of (by walk_at "lk")); (case h2 => exact rfl))
  | (with_reducible refine r_gsub ?_)
  | ((with_reducible refine' r_setL ?h1 ?h2 ?_); (case h1 => walk_at "lk"); (case h2 => exact rfl))
  | (with_reducible refine r_un ?_)
  | (with_reducible refine r_neg ?_)
  | (with_reducible refine r_iteT ?_)
  | (with_reducible refine r_iteNT ?_)
  | (with_reducible refine r_iteNF ?_)
  | (with_reducible refine r_iteF ?_)
  | (with_reducible refine r_next ?_)
  | (with_reducible refine r_drop ?_)
  | (with_reducible refine r_cont ?_)
  | (with_reducible refine r_brk ?_))
local macro_rules | `(tactic| walk_at "ty") => `(tactic| first
  | assumption
  | exact .base (.int _)
  | exact .base (.str _)
  | exact .base (.bl _)
  | exact .base .non
  | exact .byt _
  | exact .base (.lst (by walk_at "lk"))
  | exact .base (.tup (by walk_at "lk")))
local macro_rules | `(tactic| walk_at "rd2") => `(tactic| first
  | walk_at "rd1"
  | ((with_reducible refine' r_isi true ?ht ?hk ?_); (case ht => walk_at "ty"); (case hk => first | assumption | decide +kernel))
  | ((with_reducible refine' r_isi false ?ht ?hk ?_); (case ht => walk_at "ty"); (case hk => first | assumption | decide +kernel))
  | ((with_reducible refine' r_isiT2 true true ?hT ?ht ?hk ?hk2 ?_); (case hT => walk_at "lk"); (case ht => walk_at "ty"); (case hk => decide +kernel); (case hk2 => decide +kernel))
  | ((with_reducible refine' r_isiT2 true false ?hT ?ht ?hk ?hk2 ?_); (case hT => walk_at "lk"); (case ht => walk_at "ty"); (case hk => decide +kernel); (case hk2 => decide +kernel))
  | ((with_reducible refine' r_isiT2 false true ?hT ?ht ?hk ?hk2 ?_); (case hT => walk_at "lk"); (case ht => walk_at "ty"); (case hk => decide +kernel); (case hk2 => decide +kernel))
  | ((with_reducible refine' r_isiT2 false false ?hT ?ht ?hk ?hk2 ?_); (case hT => walk_at "lk"); (case ht => walk_at "ty"); (case hk => decide +kernel); (case hk2 => decide +kernel))
  | (with_reducible refine r_iteNT ?_)
  | ((show (if (!true) = true then _ else _)); refine r_iteNT ?_)
  | (with_reducible refine r_r1 ?_)
  | (with_reducible refine r_maks ?_)
  | (with_reducible refine r_sfld ?_)
  | ((with_reducible refine' r_sfldE ?h1 ?h2 ?h3 ?h4 ?_); (case h1 => walk_at "lk"); (case h2 => assumption); (case h3 => assumption); (case h4 => exact (show _ + 1 ≤ 1000 from Nat.le_of_ble_eq_true rfl)))
  | (with_reducible refine r_fld ?_)
  | (with_reducible refine r_join ?_)
  | (with_reducible refine r_jcons ?_)
  | (with_reducible refine r_jnil ?_)
  | ((with_reducible refine r_rLenY ?hz ?_); (case hz => first | assumption | (refine Nat.le_trans ?_ (by decide : 100000 ≤ sizeLine); omega)))
  | (with_reducible refine r_par ?_)
  | (with_reducible refine r_pair ?_)
  | (with_reducible refine r_par3 ?_)
  | (with_reducible refine r_trip ?_)
  | ((with_reducible refine' r_gtup ?h1 ?h2 ?_); (case h1 => first | assumption | exact SqT.of (by walk_at "lk")); (case h2 => exact rfl))
  | (with_reducible refine r_gcons ?_)
  | (with_reducible refine r_gnil ?_)
  | ((with_reducible refine' r_slL ?h1 ?_); (case h1 => first | assumption | exact SqL.of (by walk_at "lk")); (intro p hp))
  | (with_reducible refine r_iTup ?_)
  | ((with_reducible refine' r_tupE ?h1 ?_); (case h1 => first | assumption | exact SqT.of (by walk_at "lk")))
  | (with_reducible refine r_m1 ?_)
  | (with_reducible refine r_isZ ?_)
  | (with_reducible refine r_sl ?_)
  | (with_reducible refine r_noPart ?_)
  | (with_reducible refine r_part ?_)
  | (with_reducible refine r_partE ?_)
  | ((with_reducible refine r_slS ?hz ?_); (case hz => first | assumption | (refine Nat.le_trans ?_ (by decide : 100000 ≤ sizeLine); omega)))
  | ((with_reducible refine' r_inT ?h1 ?h2 ?h3 ?_); (case h1 => first | assumption | (exact SqT.of (by walk_at "lk"))); (case h2 => exact rfl); (case h3 => exact rfl))
  | ((with_reducible refine' r_inL ?h1 ?h2 ?h3 ?_); (case h1 => first | assumption | (exact SqL.of (by walk_at "lk"))); (case h2 => exact rfl); (case h3 => exact rfl))
  | (with_reducible refine r_lc ?_)
  | (with_reducible refine r_for ?_)
  | (with_reducible refine r_iStr ?_)
  | (with_reducible refine r_strE ?_)
  | (with_reducible refine r_iList ?_)
  | ((with_reducible refine' r_listE ?h1 ?_); (case h1 => first | assumption | exact SqL.of (by walk_at "lk")))
  | (with_reducible refine r_iRng1 ?_)
  | ((with_reducible refine' r_rngE ?h0 ?h1 ?_); (case h0 => first | omega | (split <;> omega)); (case h1 => first | omega | (split <;> omega))))
local macro_rules | `(tactic| walk_at "rd") => `(tactic| (repeat walk_at "rd2"))
local macro_rules | `(tactic| walk_at "st") => `(tactic| (repeat (first
  | (with_reducible refine r_gname ?_)
  | (with_reducible refine r_next ?_)
  | (with_reducible refine r_seq ?_)
  | (with_reducible refine r_asg ?_)
  | (with_reducible refine r_ret ?_)
  | (with_reducible refine r_for ?_)
  | (with_reducible refine r_iRng1 ?_)
  | (with_reducible refine r_iList ?_)
  | (with_reducible refine r_cons ?_)
  | (with_reducible refine r_par ?_)
  | (with_reducible refine r_par3 ?_))))
/-- a def's promise by the positional values and the keywords' values -/
def FnS (P : Program) (w : World) (K : PySem.W.Frag) (mg : Str → Option Value) (base : Heap) (k : Nat) (f : Addr) (ks : List Str) (sp : List V → List V → Hp → VK → Prop) : Prop :=
  ∀ (A : Around) (outer : List Env) (s : Shared) (H : Hp) (us ws : List Value) (vs zs : List V) (Q : VK) (E : XK), Room k A → Env0 P w K mg base A outer s H → Vals vs us → Vals zs ws → ws.length = ks.length → sp vs zs H Q →
    codeAny (model P w) A (.call (.ref f) ⟨us, ks.zip ws⟩) (CR CX0 outer P w H s Q E) s
theorem fnS_of {P : Program} {w : World} {K : PySem.W.Frag} {mg : Str → Option Value} {base : Heap} {k n : Nat} {f : Addr} {fd : FuncData} {ps ks : List Str} {sp : Sp} (F : FnOk P w K mg base CX0 k f fd ps sp) (hb : KBn K fd ps n ks (fun us ws => us ++ ws) (fun us ws => us ++ ws)) :
    FnS P w K mg base k f ks (fun vs zs H Q => vs.length = n ∧ ∀ E, sp (vs ++ zs) H Q E) := by
  intro A outer s H us ws vs zs Q E hr e0 rv rz hw ⟨hn, h⟩
  have KX : K.In s.heap := e0.mod.kin.keeps fun b o e => (e0.bs b o e).1
  exact F.run A outer s H _ (us ++ ws) (vs ++ zs) Q E hr e0 (hb.to s us ws KX (by rw [← rv.length]; exact hn) hw) (hb.rel rv rz) (h E)
/-! ### an own exception made, its fields stored and read, its kind asked -/
def tOstG (K : PySem.W.Frag) (f : Str) (to te : TE) : TS := fun D σ H => te σ H fun y H1 => to σ H1 fun x H2 => ∃ a C fI : Addr, x = .ref a ∧ ExG K C fI ∧ PySem.W.findIn K (.ref C) f = some none ∧ ((H2 a = some (exo a C none) ∧ ∀ dx, H2 dx = none → dx ≠ a → D.nx σ (upd (upd H2 dx (exd dx [(f, y)])) a (exo a C (some dx)))) ∨
  ∃ (dx : Addr) (fs : List (Str × V)), H2 a = some (exo a C (some dx)) ∧ H2 dx = some (exd dx fs) ∧ fs.length ≤ 900 ∧ D.nx σ (upd H2 dx (exd dx ((f, y) :: fs))))
section
variable {X : Cx} {o e : Expr} {f : Str} {p' pos : Pos} {to te : TE}
theorem ps_ostG (ho : PE X o to) (he : PE X e te) (hs : swapsWith e (some (.Attribute o f p')) pos.line X.env = pure false := by rfl) : PS X (.Assign [.Attribute o f p'] e pos) (tOstG X.K f to te) := by
  refine ⟨fun pins s σ H D I h => ?_⟩
  refine plainObj_wpAny_Assign_Attribute (thn (he.run pins s σ H _ I h) fun v s1 ⟨y, H1, I1, r1, q1⟩ => thn (ho.run pins s1 σ H1 _ I1 q1) fun u s2 ⟨x, H2, I2, r2, a, C, fI, ex, T, hno, q⟩ => ?_) hs
  subst ex
  obtain rfl : u = Value.ref a := r2
  rcases q with ⟨ea, q⟩ | ⟨dx, fs, ea, ed, hl, q⟩
  · exact ost_newG T I2 ea hno r1 fun dx s' n ne J => ⟨σ, _, J, q dx n ne⟩
  · exact ost_oldG T I2 ea ed hl hno r1 fun s' J => ⟨σ, _, J, q⟩
end
structure MakE (P : Program) (w : World) (K : PySem.W.Frag) (mg : Str → Option Value) (base : Heap) (k : Nat) (x : Str) (C : Addr) (ks : List Str) (sp : List V → List V → Hp → VK → Prop) : Prop where
  ex : ∃ f : Addr, ExG K C f ∧ FnS P w K mg base k f ks sp ∧ mg x = some (.ref C)
def tMakE (sp : List V → List V → Hp → VK → Prop) (m : Nat) (C : Addr) (t tk : TA) : TE := fun σ H Q => t σ H fun vs H1 => tk σ H1 fun zs H2 => zs.length = m ∧ vs.length ≤ 1000 ∧ ∀ a, H2 a = none → sp (.ref a :: vs) zs (upd H2 a (exo a C none)) (fun v H3 => v = .non ∧ Q (.ref a) H3)
section
variable {X : Cx} {j k : Nat} {x : Str} {C : Addr} {ks : List Str} {sp : List V → List V → Hp → VK → Prop} {e : Expr} {es : List Expr} {kws : List Keyword} {p pos : Pos} {t tk : TA}
theorem run_mke {pins : List (Addr × Obj)} {σ : L2.St} {H : Hp} {s : Shared} {Q : VK} {f : Addr} {us ws : List Value} {vs zs : List V} (T : ExG X.K C f) (F : FnS X.prog X.w X.K X.mg X.base k f ks sp) (hr : Room (k + 1) X.A)
    (I : L2.Inv X pins σ H s) (rv : Vals vs us) (rz : Vals zs ws) (hl : zs.length = ks.length) (hz : vs.length ≤ 1000)
    (h : ∀ a, H a = none → sp (.ref a :: vs) zs (upd H a (exo a C none)) (fun v H3 => v = .non ∧ Q (.ref a) H3)) :
    wpAny (model X.prog X.w) X.A (call (.ref C) us (ks.zip ws)) (EP X pins σ Q) X.xe s := by
  obtain ⟨B, newId, initId, bmA, B', bmB, FB, SF, hin, hov, t1, t2, t3⟩ := T.b
  obtain ⟨hp, g, dr, tk, os⟩ := s
  obtain ⟨nm, N, q, bs, bm, hd, sn, sub, ab, col, dd, k0, k1, k2, k3, k5, hC, hbm⟩ := PySem.W.excInit_of I.kIn hin
  have hsz : hp.objs.size ≤ hp.objs.size + 1 := Nat.le_succ _
  have hn : H (hp.objs.size + 1) = none := I.hok.fresh hsz
  have hq := h (hp.objs.size + 1) hn
  have kk : ∀ b o, hp.get? b = some o → ((hp.push (PySem.W.kdv_tup us)).push (PySem.HandSPX.excO C hp.objs.size)).get? b = some o := fun b o e => Heap.get?_push_of_some _ (Heap.get?_push_of_some _ e)
  have hget : ((hp.push (PySem.W.kdv_tup us)).push (PySem.HandSPX.excO C hp.objs.size)).get? (hp.objs.size + 1) = some (PySem.HandSPX.excO C hp.objs.size) := by heap_get
  have I2 : L2.Inv X pins σ (upd H (hp.objs.size + 1) (exo (hp.objs.size + 1) C none)) ⟨(hp.push (PySem.W.kdv_tup us)).push (PySem.HandSPX.excO C hp.objs.size), g, dr, tk, os⟩ :=
    I.laid (t' := tk) (a := hp.objs.size + 1) (o := exo (hp.objs.size + 1) C none) (h' := (hp.push (PySem.W.kdv_tup us)).push (PySem.HandSPX.excO C hp.objs.size)) kk hsz (exo_ok hget)
  have r2 : Vals (V.ref (hp.objs.size + 1) :: vs) (Value.ref (hp.objs.size + 1) :: us) := .cons rfl rv
  have hus : us.length ≤ sizeLine := by
    rw [← Paired.length rv, sizeLine_eq]
    omega
  have ran := F _ X.stack _ _ (Value.ref (hp.objs.size + 1) :: us) ws _ zs _ (fun _ _ _ => False) (hr.make C us (ks.zip ws)) (I2.env0.make C us (ks.zip ws)) r2 rz (rz.length.symm.trans hl) hq
  refine wpAny_call (ExK.call_kw FB ⟨(hbm B).trans t1, (hbm _).trans t2, (hbm _).trans t3⟩ hC (PySem.W.looks_findIn I.kIn T.iC) (fun self => PySem.W.bind_fn I.kIn self T.tI) hus (codeAny_mono ran fun r s' hq' => ?_))
  cases r with
  | error e => exact False.elim hq'
  | ok fl =>
    cases fl with
    | ret u =>
      obtain ⟨v, H', J', rel, ev, q⟩ := I2.after hq'
      rw [ev] at rel
      exact ⟨rel, V.ref (hp.objs.size + 1), H', J', rfl, q⟩
    | next => exact False.elim hq'
    | brk => exact False.elim hq'
    | cont => exact False.elim hq'
theorem pe_mke (c : MakE X.prog X.w X.K X.mg X.base k x C ks sp) (hr : Room j X.A) (hk : k + 1 ≤ j) (hg : Gl X x) (ha : PA X (e :: es) t) (hkw : PK X kws tk)
    (hall : (backToKw pos (keywordEach kws X.env)).all (·.1.isSome) = true := by rfl) (hks : (backToKw pos (keywordEach kws X.env)).filterMap (·.1) = ks := by rfl) (hdb : (x == ("__debug__" : Str)) = false := by decide)
    (he : starEach (e :: es) X.env = (false, eval e X.env) :: starEach es X.env := by rfl) (hpl : ((backTo pos (starEach (e :: es) X.env)).any (·.1) || (backToKw pos (keywordEach kws X.env)).any (·.1.isNone)) = false := by rfl) :
    PE X (.Call (.Name x p) (e :: es) kws pos) (tMakE sp ks.length C t tk) := by
  obtain ⟨f, T, F, hm⟩ := c.ex
  constructor
  intro pins s σ H Q I h
  refine wpAny_Call_Name_kw (ld_glob I hg hm ?_ hdb)
  refine PySem.W.callWith_KW (h₀ := X.base) I.ok.mod.kin T.kC hall (thn (ha.run pos pins s σ H _ I h) ?_) hpl he
  rintro us s1 ⟨vs, H1, I1, r1, q1⟩
  refine thn (hkw.run pos pins s1 σ H1 _ I1 q1) ?_
  rintro ws s2 ⟨zs, H2, I2, rz, hl, hz, q2⟩
  refine ⟨I2.kIn, ?_⟩
  rw [hks]
  exact run_mke T F (hr.mono hk) I2 r1 rz hl hz q2
theorem pe_mkeK (c : MakE X.prog X.w X.K X.mg X.base k x C ks sp) (hr : Room j X.A) (hk : k + 1 ≤ j) (hg : Gl X x) (hkw : PK X kws tk)
    (hall : (backToKw pos (keywordEach kws X.env)).all (·.1.isSome) = true := by rfl) (hks : (backToKw pos (keywordEach kws X.env)).filterMap (·.1) = ks := by rfl) (hdb : (x == ("__debug__" : Str)) = false := by decide)
    (hpl : ((backTo pos (starEach [] X.env)).any (·.1) || (backToKw pos (keywordEach kws X.env)).any (·.1.isNone)) = false := by rfl) :
    PE X (.Call (.Name x p) [] kws pos) (tMakE sp ks.length C tNil tk) := by
  obtain ⟨f, T, F, hm⟩ := c.ex
  constructor
  intro pins s σ H Q I h
  refine wpAny_Call_Name_kw (ld_glob I hg hm ?_ hdb)
  refine PySem.W.callWith_KW0 (h₀ := X.base) I.ok.mod.kin T.kC hall (thn (hkw.run pos pins s σ H _ I h) ?_) hpl
  rintro ws s2 ⟨zs, H2, I2, rz, hl, hz, q2⟩
  refine ⟨I2.kIn, ?_⟩
  rw [hks]
  exact run_mke T F (hr.mono hk) I2 .nil rz hl hz q2
theorem pe_mke0 (c : MakE X.prog X.w X.K X.mg X.base k x C [] sp) (hr : Room j X.A) (hk : k + 1 ≤ j) (hg : Gl X x) (hdb : (x == ("__debug__" : Str)) = false := by decide) : PE X (.Call (.Name x p) [] [] pos) (tMakE sp 0 C tNil tNil) := by
  obtain ⟨f, T, F, hm⟩ := c.ex
  constructor
  intro pins s σ H Q I h
  obtain ⟨hl, hz, q2⟩ := h
  refine wpAny_Call_Name_kw (ld_glob I hg hm ?_ hdb)
  exact PySem.W.callWith_K0 I.kIn T.kC (run_mke (us := []) (ws := []) T F (hr.mono hk) I .nil .nil rfl hz q2)
end
theorem r_make {sp : List V → List V → Hp → VK → Prop} {m : Nat} {C : Addr} {t tk : TA} {σ : L2.St} {H : Hp} {Q : VK} (h : t σ H fun vs H1 => tk σ H1 fun zs H2 => zs.length = m ∧ vs.length ≤ 1000 ∧ ∀ a, H2 a = none → sp (.ref a :: vs) zs (upd H2 a (exo a C none)) (fun v H3 => v = .non ∧ Q (.ref a) H3)) : tMakE sp m C t tk σ H Q := h
/-- x.f, x such an exception -/
def tExF (K : PySem.W.Frag) (ta : TE) (f : Str) : TE := fun σ H Q => ta σ H fun x H1 => ∃ (a C fI dx : Addr) (fs : List (Str × V)) (v : V), x = .ref a ∧ H1 a = some (exo a C (some dx)) ∧ H1 dx = some (exd dx fs) ∧ ExG K C fI ∧ PySem.W.findIn K (.ref C) f = some none ∧ fs.lookup f = some v ∧ Q v H1
theorem pe_exf {X : Cx} (K : PySem.W.Frag) {e : Expr} {te : TE} {pos : Pos} {n : Str} (he : PE X e te) (hb : attributeBase e n X.env (eval e X.env) = eval e X.env := by rfl) (h : X.K = K := by rfl) : PE X (.Attribute e n pos) (tExF K te n) := by
  subst h
  refine ⟨fun pins s σ H Q I h => ?_⟩
  refine attr_of hb (thn (he.run pins s σ H _ I h) fun u s1 hh => ?_)
  obtain ⟨x, H1, I1, rx, a, C, fI, dx, fs, v, ex, ea, ed, T, hno, l, q⟩ := hh
  subst ex
  obtain rfl : u = Value.ref a := rx
  obtain ⟨t1, ho⟩ := exo_at I1.hok ea
  obtain ⟨mA, hns, hr⟩ := exd_at I1.hok ed
  obtain ⟨od, hod, hl⟩ := lookIn_ns hns
  obtain ⟨u, hu, ru⟩ := RelO.some_of (v := v) (o := mA n) (by rw [← l]; exact hr n)
  have J : PySem.W.InstAt s1.heap a { cls := .ref C, dict := some dx, data := .fields #[.ref t1, .none, .none, .none, .bool false, .none] } C (some od) := ⟨ho, rfl, rfl, hod⟩
  exact PySem.HandSPX.exc_get I1.kIn J T.ga T.gg T.exC (PySem.W.findObj_own T.hd hno rfl (by rw [hl, hu])) (handed_of ru) ⟨v, H1, I1.tok _, ru, q⟩
/-- isinstance(x, c), x such an exception -/
def rIsX (K : PySem.W.Frag) : List V → Hp → VK → Prop := fun xs H Q => ∃ (a C fI : Addr) (d : Option Addr) (c : V) (cv : Value) (b : Bool), xs = [.ref a, c] ∧ H a = some (exo a C d) ∧ (∀ dx, d = some dx → ∃ fs, H dx = some (exd dx fs)) ∧ ExG K C fI ∧ ClsV c cv ∧ PySem.W.kitOne K (.ref C) cv = some b ∧ Q (.bl b) H
theorem call_isX {X : Cx} (K : PySem.W.Frag) (h : X.K = K := by rfl) : CallR X (.builtin "isinstance") (rIsX K) := by
  subst h
  intro pins s σ H xs us Q I r h
  obtain ⟨a, C, fI, d, c, cv, b, rfl, ha, hdx, T, kc, e, q⟩ := h
  obtain ⟨u1, u2, rfl, r1, r2⟩ := vals2 r
  cases (show u1 = Value.ref a from r1)
  have e2 := kc.eq r2
  subst e2
  obtain ⟨t1, ho⟩ := exo_at I.hok ha
  obtain ⟨od, J⟩ : ∃ od, PySem.W.InstAt s.heap a { cls := .ref C, dict := d, data := .fields #[.ref t1, .none, .none, .none, .bool false, .none] } C od := by
    cases d with
    | none => exact ⟨none, ho, rfl, rfl, trivial⟩
    | some dx =>
      obtain ⟨fs, ed⟩ := hdx dx rfl
      obtain ⟨mA, hns, _⟩ := exd_at I.hok ed
      obtain ⟨od, hod, _⟩ := lookIn_ns hns
      exact ⟨some od, ho, rfl, rfl, hod⟩
  have hcl : (PySem.W.clsIn X.K C).isSome = true := by
    obtain ⟨cd, hc, _⟩ := PySem.W.any_some T.hd
    rw [hc]
    rfl
  exact PySem.W.kia_one (PySem.W.kitx_exc hcl T.ga T.gg T.exC T.ha T.hn T.ht T.hm) I.kIn J e (fun z => nomatch z) fun tk => ⟨.bl b, H, I.tok tk, rfl, q⟩
/-! ### such an exception raised -/
section
variable {X : Cx} {e : Expr} {es : List Expr} {ta : TA} {p pos : Pos}
theorem pmk_oexG {CX : CXT} {x : Str} {C fI : Addr} {k : Nat} {fd : FuncData} {ps : List Str} {sp : Sp} {ds : List Value} {dvs : List V} (T : ExG X.K C fI) (tyC : PySem.W.typeIn X.K (.ref C) = some (.type "type"))
    (F1 : FnOk X.prog X.w X.K X.mg X.base CX k fI fd ps sp) (hr : Room (k + 1) X.A) (hb : Binds X.K fd ps ds) (hd : Vals dvs ds) (hx : Passes CX X (fun _ _ _ => False)) (hg : Gl X x) (hm : X.mg x = some (.ref C)) (ha : PA X (e :: es) ta)
    (hdb : (x == ("__debug__" : Str)) = false := by decide) (he : starEach (e :: es) X.env = (false, eval e X.env) :: starEach es X.env := by rfl) (hpl : (backTo pos (starEach es X.env)).any (·.1) = false := by rfl) :
    PMk X (.Call (.Name x p) (e :: es) [] pos) (tMkO C sp dvs ta) := by
  intro pins s σ H Q I h
  obtain ⟨B, newId, initId, bmA, B', bmB, FB, SF, hin, hov, t1, t2, t3⟩ := T.b
  refine wpAny_Call_Name_kw (ld_glob I hg hm ?_ hdb)
  refine PySem.W.callWith_K (h₀ := X.base) I.ok.mod.kin T.kC (thn (ha.run pos pins s σ H _ I h) fun us s1 ⟨vs, H1, I1, r1, hz, q1⟩ => ⟨I1.kIn, ?_⟩) he hpl
  show wpAny _ _ (call (.ref C) us) _ _ _
  obtain ⟨hp, g, dr, tk, os⟩ := s1
  obtain ⟨nm, N, q, bs, bm, hdd, sn, sub, ab, col, dd, k0, k1, k2, k3, k5, hC, hbm⟩ := PySem.W.excInit_of I1.kIn hin
  have hsz : hp.objs.size ≤ hp.objs.size + 1 := Nat.le_succ _
  have hn : H1 (hp.objs.size + 1) = none := I1.hok.fresh hsz
  have hq := q1 (hp.objs.size + 1) hn
  have kk : ∀ b o, hp.get? b = some o → ((hp.push (PySem.W.kdv_tup us)).push (PySem.HandSPX.excO C hp.objs.size)).get? b = some o := fun b o e => Heap.get?_push_of_some _ (Heap.get?_push_of_some _ e)
  have hget : ((hp.push (PySem.W.kdv_tup us)).push (PySem.HandSPX.excO C hp.objs.size)).get? (hp.objs.size + 1) = some (PySem.HandSPX.excO C hp.objs.size) := by heap_get
  have I2 : L2.Inv X pins σ (upd H1 (hp.objs.size + 1) (exo (hp.objs.size + 1) C none)) ⟨(hp.push (PySem.W.kdv_tup us)).push (PySem.HandSPX.excO C hp.objs.size), g, dr, tk, os⟩ :=
    I1.laid (t' := tk) (a := hp.objs.size + 1) (o := exo (hp.objs.size + 1) C none) (h' := (hp.push (PySem.W.kdv_tup us)).push (PySem.HandSPX.excO C hp.objs.size)) kk hsz (exo_ok hget)
  have r2 : Vals (V.ref (hp.objs.size + 1) :: (vs ++ dvs)) (Value.ref (hp.objs.size + 1) :: (us ++ ds)) := .cons rfl (r1.append hd)
  have hl : (Value.ref (hp.objs.size + 1) :: us ++ ds).length = ps.length := by
    have e := r2.length
    rw [F1.len _ _ _ _ hq] at e
    exact e.symm
  have hus : us.length ≤ sizeLine := by
    rw [← Paired.length r1, sizeLine_eq]
    omega
  refine wpAny_call (ExK.call_kw (kw := []) FB ⟨(hbm B).trans t1, (hbm _).trans t2, (hbm _).trans t3⟩ hC (PySem.W.looks_findIn I1.kIn T.iC) (fun self => PySem.W.bind_fn I1.kIn self T.tI) hus
    (codeAny_mono (F1.run _ X.stack _ _ ⟨Value.ref (hp.objs.size + 1) :: us, []⟩ (Value.ref (hp.objs.size + 1) :: (us ++ ds)) _ _ (fun _ _ _ => False) (hr.make C us []) (I2.env0.make C us []) (hb _ (Value.ref (hp.objs.size + 1) :: us) I2.kIn hl) r2 hq) fun r s' hq' => ?_))
  cases r with
  | error er => exact hx pins σ _ _ er s' I2 hq'
  | ok fl =>
    cases fl with
    | ret u =>
      obtain ⟨v, H2, os2, bare2, un2, hok2, rv, ev, d, fs, ea, ed, hd1, q2⟩ := hq'
      subst ev
      obtain ⟨h2, g2, d2, t2, os'⟩ := s'
      exact ⟨rv, mk_end (raises_own T.exC tyC) I1 hsz kk un2 hok2 os2 bare2 ea ed hd1 q2⟩
    | next => exact False.elim hq'
    | brk => exact False.elim hq'
    | cont => exact False.elim hq'
end
/-- isinstance(e, c), e the exception with fields that the suite holds -/
def rIsEd (K : PySem.W.Frag) (D a dd : Addr) : List V → Hp → VK → Prop := fun xs H Q => ∃ (c : V) (cv : Value) (b : Bool) (fs : List (Str × V)), xs = [.ref a, c] ∧ H dd = some (.xd fs) ∧ ClsV c cv ∧ PySem.W.kitOne K (.ref D) cv = some b ∧ Q (.bl b) H
theorem call_isEd {X : Cx} {a D fI dd : Addr} {oe : Obj} {pn : List (Addr × Obj)} (T : ExG X.K D fI) (hz : Zc (.ref D) (some dd) oe) (hf : ∃ vs, oe.data = .fields vs) : CallR (X.suite a ((a, oe) :: pn)) (.builtin "isinstance") (rIsEd X.K D a dd) := by
  intro pins s σ H xs us Q I r h
  obtain ⟨c, cv, b, fs, rfl, ed, kc, e, q⟩ := h
  obtain ⟨u1, u2, rfl, r1, r2⟩ := vals2 r
  cases (show u1 = Value.ref a from r1)
  have e2 := kc.eq r2
  subst e2
  obtain ⟨hget, _⟩ := I.pin (a, oe) (List.mem_append.mpr (.inl List.mem_cons_self))
  obtain ⟨vs, hv⟩ := hf
  have hx : ObjOk X.prog X.w H s.heap dd (.xd fs) := I.hok dd _ ed
  obtain ⟨mA, hns, hr⟩ := hx
  obtain ⟨od, hod, _⟩ := lookIn_ns hns
  have J : PySem.W.InstAt s.heap a oe D (some od) := ⟨hget, hz.1, by unfold PySem.W.notCls; rw [hv] <;> rfl, by rw [hz.2]; exact hod⟩
  have hcl : (PySem.W.clsIn X.K D).isSome = true := by
    obtain ⟨cd, hc, _⟩ := PySem.W.any_some T.hd
    rw [hc]
    rfl
  exact PySem.W.kia_one (PySem.W.kitx_exc hcl T.ga T.gg T.exC T.ha T.hn T.ht T.hm) I.kIn J e (fun z => nomatch z) fun tk => ⟨.bl b, H, I.kept (t' := tk) fun _ _ z => z, rfl, q⟩
end Th
namespace Th
open PySem PySem.Spec PyProof.Rows L2
local macro_rules | `(tactic| walk_at "lk") => `(tactic| first
  | assumption
  | exact upd_same
  | (refine upd_old (by assumption) ?_; walk_at "lk")
  | (refine upd_diff (by assumption) ?_; walk_at "lk")
  | (refine upd_diff (Ne.symm (by assumption)) ?_; walk_at "lk"))
local macro_rules | `(tactic| walk_at "cnd") => `(tactic| first
  | omega
  | (refine ⟨by omega, by omega⟩)
  | (refine ⟨by omega, by omega, by omega⟩)
  | (refine .inl ⟨by omega, by omega⟩)
  | (refine .inr ⟨by omega, by omega⟩)
  | (exact (show CPow _ _ from ⟨by decide, by decide, by omega⟩))
  | decide +kernel
  | (unfold CMulW; decide +kernel)
  | (exact wide_div (b := 64) (by omega) (by omega) (by decide) (by decide)))
local macro_rules | `(tactic| walk_at "rd1") => `(tactic| first
  | (with_reducible refine r_seq ?_)
  | (with_reducible refine r_asg ?_)
  | (with_reducible refine r_ret ?_)
  | (with_reducible refine r_if ?_)
  | (with_reducible refine r_gname ?_)
  | ((with_reducible refine' r_var ?hv ?_); (case hv => exact rfl))
  | (with_reducible refine r_c ?_)
  | (with_reducible refine r_op ?_)
  | (with_reducible refine r_I0 ?_)
  | ((with_reducible refine r_I ?hc ?_); (case hc => walk_at "cnd"))
  | (with_reducible refine r_test ?_)
  | (with_reducible refine r_tB ?_)
  | (with_reducible refine r_bl ?_)
  | (with_reducible refine r_not ?_)
  | (with_reducible refine r_and ?_)
  | (with_reducible refine r_or ?_)
  | (with_reducible refine r_ifE ?_)
  | (with_reducible refine r_notV ?_)
  | (with_reducible refine r_andV ?_)
  | (with_reducible refine r_orV ?_)
  | (with_reducible refine r_chain ?_)
  | (with_reducible refine r_cb ?_)
  | (with_reducible refine r_call ?_)
  | (with_reducible refine r_callN ?_)
  | (with_reducible refine r_nil ?_)
  | (with_reducible refine r_cons ?_)
  | ((with_reducible refine r_lst ?_))
  | ((with_reducible refine r_tup ?_))
  | ((with_reducible refine r_new ?_ ?_); (exact Nat.le_of_ble_eq_true rfl); (intro p hp))
  | (with_reducible refine r_rInt1 ?_)
  | (with_reducible refine r_rIntB ?_)
  | (with_reducible refine r_rAbs ?_)
  | (with_reducible refine r_rMin2 ?_)
  | (with_reducible refine r_rMax2 ?_)
  | ((with_reducible refine r_rLenZ ?hz ?_); (case hz => first | assumption | exact Nat.le_of_ble_eq_true rfl | (refine Nat.le_trans ?_ (by decide : 100000 ≤ sizeLine); omega)))
  | ((with_reducible refine r_addZ ?hz ?_); (case hz => (refine Nat.le_trans ?_ (by decide : 100000 ≤ sizeLine); first | omega | (simp only [Str.length] at *; simp; omega))))
  | ((with_reducible refine r_mulZ ?hz ?h0 ?h1 ?_); (case hz => first | omega | exact Nat.le_of_ble_eq_true rfl); (case h0 => omega); (case h1 => omega))
  | ((with_reducible refine' r_rLenQ ?h1 ?_); (case h1 => first | (exact .inl (by assumption)) | (exact .inr (by assumption)) | (exact .inl (SqL.of (by walk_at "lk"))) | (exact .inr (SqT.of (by walk_at "lk")))))
  | ((with_reducible refine r_eq ?hs ?_); (case hs => exact rfl))
  | ((with_reducible refine r_ne ?hs ?_); (case hs => exact rfl))
  | (with_reducible refine r_inC ?_)
  | ((with_reducible refine' r_cat ?h1 ?h2 ?h3 ?_); (case h1 => walk_at "lk"); (case h2 => walk_at "lk"); (case h3 => exact Nat.le_of_ble_eq_true rfl); (intro p hp))
  | ((with_reducible refine' r_rep ?h1 ?h2 ?h3 ?h4 ?_); (case h1 => walk_at "lk"); (case h2 => omega); (case h3 => omega); (case h4 => exact Nat.le_of_ble_eq_true rfl); (intro p hp))
  | ((with_reducible refine' r_append ?h1 ?h2 ?_); (case h1 => walk_at "lk"); (case h2 => first | exact (show _ + 1 ≤ sizeLine from Nat.le_of_ble_eq_true rfl) | exact Nat.lt_of_le_of_lt (by omega : _ ≤ 100000) (by decide)))
  | (with_reducible refine r_bm ?_)
  | ((with_reducible refine' r_tyL ?h1 ?_); (case h1 => walk_at "lk"))
  | ((with_reducible refine' r_ixL ?h1 ?h2 ?_); (case h1 => first | assumption | exact SqL.of (by walk_at "lk")); (case h2 => exact rfl))
  | ((with_reducible refine' r_ixT ?h1 ?h2 ?_); (case h1 => first | assumption | exact SqT.of (by walk_at "lk")); (case h2 => exact rfl))
  | (with_reducible refine r_gsub ?_)
  | ((with_reducible refine' r_setL ?h1 ?h2 ?_); (case h1 => walk_at "lk"); (case h2 => exact rfl))
  | (with_reducible refine r_un ?_)
  | (with_reducible refine r_neg ?_)
  | (with_reducible refine r_iteT ?_)
  | (with_reducible refine r_iteNT ?_)
  | (with_reducible refine r_iteNF ?_)
  | (with_reducible refine r_iteF ?_)
  | (with_reducible refine r_next ?_)
  | (with_reducible refine r_drop ?_)
  | (with_reducible refine r_cont ?_)
  | (with_reducible refine r_brk ?_))
local macro_rules | `(tactic| walk_at "ty") => `(tactic| first
  | assumption
  | exact .base (.int _)
  | exact .base (.str _)
  | exact .base (.bl _)
  | exact .base .non
  | exact .byt _
  | exact .base (.lst (by walk_at "lk"))
  | exact .base (.tup (by walk_at "lk")))
local macro_rules | `(tactic| walk_at "rd2") => `(tactic| first
  | walk_at "rd1"
  | ((with_reducible refine' r_isi true ?ht ?hk ?_); (case ht => walk_at "ty"); (case hk => first | assumption | decide +kernel))
  | ((with_reducible refine' r_isi false ?ht ?hk ?_); (case ht => walk_at "ty"); (case hk => first | assumption | decide +kernel))
  | ((with_reducible refine' r_isiT2 true true ?hT ?ht ?hk ?hk2 ?_); (case hT => walk_at "lk"); (case ht => walk_at "ty"); (case hk => decide +kernel); (case hk2 => decide +kernel))
  | ((with_reducible refine' r_isiT2 true false ?hT ?ht ?hk ?hk2 ?_); (case hT => walk_at "lk"); (case ht => walk_at "ty"); (case hk => decide +kernel); (case hk2 => decide +kernel))
  | ((with_reducible refine' r_isiT2 false true ?hT ?ht ?hk ?hk2 ?_); (case hT => walk_at "lk"); (case ht => walk_at "ty"); (case hk => decide +kernel); (case hk2 => decide +kernel))
  | ((with_reducible refine' r_isiT2 false false ?hT ?ht ?hk ?hk2 ?_); (case hT => walk_at "lk"); (case ht => walk_at "ty"); (case hk => decide +kernel); (case hk2 => decide +kernel))
  | (with_reducible refine r_iteNT ?_)
  | ((show (if (!true) = true then _ else _)); refine r_iteNT ?_)
  | (with_reducible refine r_r1 ?_)
  | (with_reducible refine r_maks ?_)
  | (with_reducible refine r_sfld ?_)
  | ((with_reducible refine' r_sfldE ?h1 ?h2 ?h3 ?h4 ?_); (case h1 => walk_at "lk"); (case h2 => assumption); (case h3 => assumption); (case h4 => exact (show _ + 1 ≤ 1000 from Nat.le_of_ble_eq_true rfl)))
  | (with_reducible refine r_fld ?_)
  | (with_reducible refine r_join ?_)
  | (with_reducible refine r_jcons ?_)
  | (with_reducible refine r_jnil ?_)
  | ((with_reducible refine r_rLenY ?hz ?_); (case hz => first | assumption | (refine Nat.le_trans ?_ (by decide : 100000 ≤ sizeLine); omega)))
  | (with_reducible refine r_par ?_)
  | (with_reducible refine r_pair ?_)
  | (with_reducible refine r_par3 ?_)
  | (with_reducible refine r_trip ?_)
  | ((with_reducible refine' r_gtup ?h1 ?h2 ?_); (case h1 => first | assumption | exact SqT.of (by walk_at "lk")); (case h2 => exact rfl))
  | (with_reducible refine r_gcons ?_)
  | (with_reducible refine r_gnil ?_)
  | ((with_reducible refine' r_slL ?h1 ?_); (case h1 => first | assumption | exact SqL.of (by walk_at "lk")); (intro p hp))
  | (with_reducible refine r_iTup ?_)
  | ((with_reducible refine' r_tupE ?h1 ?_); (case h1 => first | assumption | exact SqT.of (by walk_at "lk")))
  | (with_reducible refine r_m1 ?_)
  | (with_reducible refine r_isZ ?_)
  | (with_reducible refine r_sl ?_)
  | (with_reducible refine r_noPart ?_)
  | (with_reducible refine r_part ?_)
  | (with_reducible refine r_partE ?_)
  | ((with_reducible refine r_slS ?hz ?_); (case hz => first | assumption | (refine Nat.le_trans ?_ (by decide : 100000 ≤ sizeLine); omega)))
  | ((with_reducible refine' r_inT ?h1 ?h2 ?h3 ?_); (case h1 => first | assumption | (exact SqT.of (by walk_at "lk"))); (case h2 => exact rfl); (case h3 => exact rfl))
  | ((with_reducible refine' r_inL ?h1 ?h2 ?h3 ?_); (case h1 => first | assumption | (exact SqL.of (by walk_at "lk"))); (case h2 => exact rfl); (case h3 => exact rfl))
  | (with_reducible refine r_lc ?_)
  | (with_reducible refine r_for ?_)
  | (with_reducible refine r_iStr ?_)
  | (with_reducible refine r_strE ?_)
  | (with_reducible refine r_iList ?_)
  | ((with_reducible refine' r_listE ?h1 ?_); (case h1 => first | assumption | exact SqL.of (by walk_at "lk")))
  | (with_reducible refine r_iRng1 ?_)
  | ((with_reducible refine' r_rngE ?h0 ?h1 ?_); (case h0 => first | omega | (split <;> omega)); (case h1 => first | omega | (split <;> omega))))
local macro_rules | `(tactic| walk_at "rd") => `(tactic| (repeat walk_at "rd2"))
local macro_rules | `(tactic| walk_at "st") => `(tactic| (repeat (first
  | (with_reducible refine r_gname ?_)
  | (with_reducible refine r_next ?_)
  | (with_reducible refine r_seq ?_)
  | (with_reducible refine r_asg ?_)
  | (with_reducible refine r_ret ?_)
  | (with_reducible refine r_for ?_)
  | (with_reducible refine r_iRng1 ?_)
  | (with_reducible refine r_iList ?_)
  | (with_reducible refine r_cons ?_)
  | (with_reducible refine r_par ?_)
  | (with_reducible refine r_par3 ?_))))
abbrev s_copied : Stmt := topS 2
abbrev N_copied : List Str := ["thing", "part", "key"]
theorem sc_copied : FnScope N_copied ["thing"] (defScope s_copied) := ⟨rfl, rfl, rfl, by decide +kernel, rfl, by decide +kernel, by decide +kernel⟩
abbrev s_NoBlock___init__ : Stmt := inClass (topS 6) 0
abbrev N_NoBlock___init__ : List Str := ["self", "thing"]
theorem sc_NoBlock___init__ : FnScope N_NoBlock___init__ ["self", "thing"] (defScope s_NoBlock___init__) := ⟨rfl, rfl, rfl, by decide +kernel, rfl, by decide +kernel, by decide +kernel⟩
/-! ### what checksum refuses: copied, kept in the error -/
def Cp (x y : V) (H : Hp) : Prop := (x = y ∧ (x = .non ∨ x = .int 512 ∨ (∃ z : Str, x = .str z ∧ PySem.W.KSb.Asc z ∧ z.length ≤ 512) ∨ ∃ xs : List Nat, x = .byt (Bt.byOf xs) ∧ xs.length ≤ 513)) ∨
  ∃ (p p' : Addr) (xs : List Nat), x = .ref p ∧ y = .ref p' ∧ LN H p xs ∧ LN H p' xs ∧ xs.length ≤ 512 ∧ ∀ v ∈ xs, v < 256
theorem Cp.mapH {x y : V} {H H' : Hp} (h : Cp x y H) (e : ∀ p xs, LN H p xs → LN H' p xs) : Cp x y H' := by
  rcases h with h | ⟨p, p', xs, h1, h2, h3, h4, h5, h6⟩
  · exact .inl h
  · exact .inr ⟨p, p', xs, h1, h2, e _ _ h3, e _ _ h4, h5, h6⟩
theorem exo_lst {e C : Addr} {d : Option Addr} {xs : List V} : exo e C d ≠ .lst xs := fun z => by
  have z' : HO.ext _ = HO.lst xs := z
  cases z'
theorem exd_lst {dx : Addr} {fs : List (Str × V)} {xs : List V} : exd dx fs ≠ .lst xs := fun z => by
  have z' : HO.ext _ = HO.lst xs := z
  cases z'
theorem r_ostG {K : PySem.W.Frag} {f : Str} {to te : TE} {D : Ends} {σ : L2.St} {H : Hp} (h : te σ H fun y H1 => to σ H1 fun x H2 => ∃ a C fI : Addr, x = .ref a ∧ ExG K C fI ∧ PySem.W.findIn K (.ref C) f = some none ∧ ((H2 a = some (exo a C none) ∧ ∀ dx, H2 dx = none → dx ≠ a → D.nx σ (upd (upd H2 dx (exd dx [(f, y)])) a (exo a C (some dx)))) ∨
  ∃ (dx : Addr) (fs : List (Str × V)), H2 a = some (exo a C (some dx)) ∧ H2 dx = some (exd dx fs) ∧ fs.length ≤ 900 ∧ D.nx σ (upd H2 dx (exd dx ((f, y) :: fs))))) : tOstG K f to te D σ H := h
def spCopI : Sp := fun vs H Q _ => ∃ i : Int, vs = [.int i] ∧ Q (.int i) H
def spCopO : Sp := fun vs H Q _ => ∃ x : V, vs = [x] ∧ Odd x H ∧ ∀ y H', Same H H' → Cp x y H' → Q y H'
def spIB (C : Addr) : Sp := fun vs H Q _ => ∃ a x, vs = [.ref a, x] ∧ H a = some (exo a C none) ∧ Odd x H ∧ ∀ y dx H', (∀ b o, b ≠ a → H b = some o → H' b = some o) → H dx = none → H' a = some (exo a C (some dx)) → H' dx = some (exd dx [("thing", y)]) → Cp x y H' → Q .non H'
section
variable {P : Program} {w : World} {K : PySem.W.Frag} {mg : Str → Option Value} {base : Heap}
theorem ok_copI {f : Addr} {fd : FuncData} {k : Nat} (F : Fun K "copied" "copied" s_copied f fd) (m1 : mg "isinstance" = none) (m2 : mg "list" = none) (m3 : mg "tuple" = none) (m4 : mg "dict" = none) (c_copied : CalT P w K mg base 0 "copied" (fun _ _ _ _ => False)) : FnOk P w K mg base CX0 (k + 1) f fd ["thing"] spCopI := by
  refine F.ok sc_copied (fun vs H Q E h => ?_) (fun cdv A outer s H vs Q E hr h => ?_)
  · obtain ⟨i, rfl, _⟩ := h
    rfl
  · obtain ⟨i, rfl, q⟩ := h
    have hu := hu_of hr
    have nd := sc_copied.nd
    refine ⟨_, (pss_cons (ps_if (pt_val (pe_callB (call_isiK1 K) (by rfl) (by assumption) (by decide +kernel) (pa_cons (pv 0) (pa_cons (pe_bltn (v := .ty "list") (by rfl) (by assumption) (by decide +kernel) rfl) pa_nil))))
        (pss_one (ps_ret (pe_lc (own := [("part", 1)]) (g := (gName 1)) (tt := tYes) rfl nd (pi_list (pv 0)) (blkOk_by (N := N_copied) (sc := defScope s_copied) (by decide +kernel)) (fun _ _ _ _ _ => (pg_name (i := 1) nd rfl (Or.inl rfl))) (fun _ _ _ _ _ => pts_nil) (fun _ _ _ _ _ => (pe_cc c_copied hr (by omega) (by rfl) (pa_cons (pv 1) pa_nil))))))
        pss_nil)
      (pss_cons (ps_if (pt_val (pe_callB (call_isiK1 K) (by rfl) (by assumption) (by decide +kernel) (pa_cons (pv 0) (pa_cons (pe_bltn (v := .ty "tuple") (by rfl) (by assumption) (by decide +kernel) rfl) pa_nil))))
        (pss_one (ps_ret (pe_tupleOf (by rfl) (by assumption) (pe_lc (own := [("part", 1)]) (g := (gName 1)) (tt := tYes) rfl nd (pi_tup (pv 0)) (blkOk_by (N := N_copied) (sc := defScope s_copied) (by decide +kernel)) (fun _ _ _ _ _ => (pg_name (i := 1) nd rfl (Or.inl rfl))) (fun _ _ _ _ _ => pts_nil) (fun _ _ _ _ _ => (pe_cc c_copied hr (by omega) (by rfl) (pa_cons (pv 1) pa_nil)))))))
        pss_nil)
      (pss_cons (ps_if (pt_val (pe_callB (call_isiK1 K) (by rfl) (by assumption) (by decide +kernel) (pa_cons (pv 0) (pa_cons (pe_bltn (v := .ty "dict") (by rfl) (by assumption) (by decide +kernel) rfl) pa_nil))))
        (pss_one ps_never)
        pss_nil)
      (pss_one (ps_ret (pv 0)))))), ?_⟩
    walk_at "rd"
    exact q
theorem ok_copO {f : Addr} {fd : FuncData} {k : Nat} (F : Fun K "copied" "copied" s_copied f fd) (m1 : mg "isinstance" = none) (m2 : mg "list" = none) (m3 : mg "tuple" = none) (m4 : mg "dict" = none) (c_copied : CalT P w K mg base 1 "copied" spCopI) : FnOk P w K mg base CX0 (k + 2) f fd ["thing"] spCopO := by
  refine F.ok sc_copied (fun vs H Q E h => ?_) (fun cdv A outer s H vs Q E hr h => ?_)
  · obtain ⟨x, rfl, _⟩ := h
    rfl
  · obtain ⟨x, rfl, hx, q⟩ := h
    have hu := hu_of hr
    have nd := sc_copied.nd
    refine ⟨_, (pss_cons (ps_if (pt_val (pe_callB (call_isiK1 K) (by rfl) (by assumption) (by decide +kernel) (pa_cons (pv 0) (pa_cons (pe_bltn (v := .ty "list") (by rfl) (by assumption) (by decide +kernel) rfl) pa_nil))))
        (pss_one (ps_ret (pe_lc (own := [("part", 1)]) (g := (gName 1)) (tt := tYes) rfl nd (pi_list (pv 0)) (blkOk_by (N := N_copied) (sc := defScope s_copied) (by decide +kernel)) (fun _ _ _ _ _ => (pg_name (i := 1) nd rfl (Or.inl rfl))) (fun _ _ _ _ _ => pts_nil) (fun _ _ _ _ _ => (pe_cc c_copied hr (by omega) (by rfl) (pa_cons (pv 1) pa_nil))))))
        pss_nil)
      (pss_cons (ps_if (pt_val (pe_callB (call_isiK1 K) (by rfl) (by assumption) (by decide +kernel) (pa_cons (pv 0) (pa_cons (pe_bltn (v := .ty "tuple") (by rfl) (by assumption) (by decide +kernel) rfl) pa_nil))))
        (pss_one (ps_ret (pe_tupleOf (by rfl) (by assumption) (pe_lc (own := [("part", 1)]) (g := (gName 1)) (tt := tYes) rfl nd (pi_tup (pv 0)) (blkOk_by (N := N_copied) (sc := defScope s_copied) (by decide +kernel)) (fun _ _ _ _ _ => (pg_name (i := 1) nd rfl (Or.inl rfl))) (fun _ _ _ _ _ => pts_nil) (fun _ _ _ _ _ => (pe_cc c_copied hr (by omega) (by rfl) (pa_cons (pv 1) pa_nil)))))))
        pss_nil)
      (pss_cons (ps_if (pt_val (pe_callB (call_isiK1 K) (by rfl) (by assumption) (by decide +kernel) (pa_cons (pv 0) (pa_cons (pe_bltn (v := .ty "dict") (by rfl) (by assumption) (by decide +kernel) rfl) pa_nil))))
        (pss_one ps_never)
        pss_nil)
      (pss_one (ps_ret (pv 0)))))), ?_⟩
    rcases hx with rfl | rfl | ⟨z, rfl, hz⟩ | ⟨p, xs, rfl, hp, hl, hv⟩ | ⟨xs, rfl, hl, hn⟩
    · walk_at "rd"; exact q _ _ (Same.refl _) (.inl ⟨rfl, .inl rfl⟩)
    · walk_at "rd"; exact q _ _ (Same.refl _) (.inl ⟨rfl, .inr (.inl rfl)⟩)
    · walk_at "rd"; exact q _ _ (Same.refl _) (.inl ⟨rfl, .inr (.inr (.inl ⟨z, rfl, hz⟩))⟩)
    · have ty : TyX K H (.ref p) (.type "list") := .base (.lst hp)
      walk_at "rd"
      intro D hD
      refine lc_map (cs := nL xs) (enc := V.int) (f := V.int) walk_list hD (Nat.lt_of_le_of_lt (by rw [nL, List.length_map]; exact hl) (by decide)) (fun H' e => SqL.of (e _ _ hp)) (fun x => rfl) ?_ ?_
      · intro c hc H' e Q2 k2
        walk_at "rd"
        exact ⟨c, rfl, k2 _ (Same.refl _)⟩
      · intro H' e hb
        exact q _ _ e (.inr ⟨p, D, xs, rfl, rfl, e _ _ hp, hb, hl, hv⟩)
    · walk_at "rd"; exact q _ _ (Same.refl _) (.inl ⟨rfl, .inr (.inr (.inr ⟨xs, rfl, hl⟩))⟩)
theorem ok_iNoBlock {fI C : Addr} {fd : FuncData} {k : Nat} (F : Fun K "__init__" "NoBlock.__init__" s_NoBlock___init__ fI fd) (T : ExG K C fI) (hno : PySem.W.findIn K (.ref C) "thing" = some none) (c_copied : CalT P w K mg base 2 "copied" spCopO) : FnOk P w K mg base CX0 (k + 3) fI fd ["self", "thing"] (spIB C) := by
  refine F.ok sc_NoBlock___init__ (fun vs H Q E h => ?_) (fun cdv A outer s H vs Q E hr h => ?_)
  · obtain ⟨a, x, rfl, _⟩ := h
    rfl
  · obtain ⟨a, x, rfl, ha, hx, q⟩ := h
    have hu := hu_of hr
    have nd := sc_NoBlock___init__.nd
    refine ⟨_, (pss_one (ps_ostG (pv 0) (pe_cc c_copied hr (by omega) (by rfl) (pa_cons (pv 1) pa_nil)) rfl)), ?_⟩
    refine r_ostG ?_
    walk_at "rd"
    refine ⟨x, rfl, hx, fun y H1 e1 hy => ?_⟩
    walk_at "rd"
    have ha1 := e1 _ _ ha
    refine ⟨a, C, fI, rfl, T, hno, .inl ⟨ha1, fun dx hdx ne => ?_⟩⟩
    exact q y dx _ (fun b o nb eb => by rw [upd_ne nb, upd_ne (ne_of_none (e1 _ _ eb) hdx)]; exact e1 _ _ eb) (none_same e1 hdx) upd_same (by rw [upd_ne ne, upd_same])
      (hy.mapH fun p xs h => by unfold LN; rw [upd_ne (at_ne ha1 h exo_lst), upd_ne (ne_of_none h hdx)]; exact h)
theorem Odd.up {x : V} {H : Hp} {a : Addr} {o : HO} (h : Odd x H) (ha : H a = none) : Odd x (upd H a o) := by
  rcases h with h | h | h | ⟨p, xs, h1, h2, h3, h4⟩ | h
  · exact .inl h
  · exact .inr (.inl h)
  · exact .inr (.inr (.inl h))
  · exact .inr (.inr (.inr (.inl ⟨p, xs, h1, upd_old ha h2, h3, h4⟩)))
  · exact .inr (.inr (.inr (.inr h)))
theorem mk_block {C : Addr} {x : V} {H : Hp} {W : Value → Option Addr → Hp → Prop} (hx : Odd x H) (q : ∀ y dx H', Same H H' → H' dx = some (.xd [("thing", y)]) → Cp x y H' → W (.ref C) (some dx) H') :
    [x].length ≤ 1000 ∧ ∀ a, H a = none → spIB C (.ref a :: ([x] ++ [])) (upd H a (exo a C none)) (fun v H2 => v = .non ∧ ∃ (d : Addr) (fs : List (Str × V)), H2 a = some (exo a C (some d)) ∧ H2 d = some (exd d fs) ∧ H d = none ∧ W (.ref C) (some d) (upd (del H2 a) d (.xd fs))) (fun _ _ _ => False) := by
  refine ⟨by simp, fun a ha => ⟨a, x, rfl, upd_same, hx.up ha, fun y dx H2 fr hdx h1 h2 hc => ?_⟩⟩
  have nda : dx ≠ a := fun z => by rw [z, upd_same] at hdx; cases hdx
  have hHd : H dx = none := by rw [upd_ne nda] at hdx; exact hdx
  refine ⟨rfl, dx, _, h1, h2, hHd, q y dx _ (fun b o e => ?_) upd_same (hc.mapH fun p xs h => ?_)⟩
  · rw [upd_ne (ne_of_none e hHd), del_ne (ne_of_none e ha)]
    exact fr b o (ne_of_none e ha) (upd_old ha e)
  · unfold LN
    rw [upd_ne (at_ne h2 h exd_lst), del_ne (at_ne h1 h exo_lst)]
    exact h
/-! ### checksum, refusing -/
def spCheckX (C : Addr) : Sp := fun vs H _ E => ∃ x, vs = [x] ∧ Odd x H ∧ ∀ y dx H', Same H H' → H' dx = some (.xd [("thing", y)]) → Cp x y H' → E (.ref C) (some dx) H'
theorem ok_checkX {f fI C : Addr} {fd fdI : FuncData} {psI : List Str} {k : Nat} (F : Fun K "checksum" "checksum" s_checksum f fd) (T : ExG K C fI) (tyC : PySem.W.typeIn K (.ref C) = some (.type "type")) (F1 : FnOk P w K mg base CX0 3 fI fdI psI (spIB C)) (hbI : Binds K fdI psI []) (mB : mg "NoBlock" = some (.ref C))
    (m1 : mg "isinstance" = none) (m2 : mg "bytes" = none) (m3 : mg "len" = none) (m4 : mg "sum" = none) {t1 : Tok} (m_BS : mg "BLOCK_SIZE" = some (.int 512 t1)) : FnOk P w K mg base (L2.CX P w) (k + 5) f fd ["block"] (spCheckX C) := by
  refine F.okX sc_checksum (fun vs H Q E h => ?_) (fun cdv A outer s H vs Q E hr h => ?_)
  · obtain ⟨x, rfl, _⟩ := h
    rfl
  · obtain ⟨x, rfl, hx, q⟩ := h
    have hu := hu_of hr
    have nd := sc_checksum.nd
    refine ⟨_, (pss_cons (ps_if (PW.pt (pw_or (pt_not (pt_val (pe_callB (call_isiK1 K) (by rfl) (by assumption) (by decide +kernel) (pa_cons (pv 0) (pa_cons (pe_bltn (v := .ty "bytes") (by rfl) (by assumption) (by decide +kernel) rfl) pa_nil))))) (pw_or1 (pt_cmpR op_ne (pe_callB call_rLenY (by rfl) (by assumption) (by decide +kernel) (pa_cons (pv 0) pa_nil)) (pe_glob (v := .int 512) (by rfl) m_BS (by first | exact rfl | exact ⟨_, rfl⟩)) (nomark _)))))
        (pss_one (ps_raise rfl (takes_of rfl rfl rfl rfl) (pmk_oexG T tyC F1 (hr.mono (by omega)) hbI .nil pass0 (by rfl) mB (pa_cons (pv 0) pa_nil))))
        pss_nil)
      (pss_one (ps_ret (pe_op op_add (pe_op op_add (pe_callB call_sumB (by rfl) (by assumption) (by decide +kernel) (pa_cons (pe_slice sl_Y (pv 0) po_none (po_some pe_int)) pa_nil)) (pe_callB call_sumB (by rfl) (by assumption) (by decide +kernel) (pa_cons (pe_op op_mulB pe_byt pe_int) pa_nil))) (pe_callB call_sumB (by rfl) (by assumption) (by decide +kernel) (pa_cons (pe_slice sl_Y (pv 0) (po_some pe_int) po_none) pa_nil)))))), ?_⟩
    have fin : tCons (tVar 0) tNil (L2.start N_checksum [x]) H (fun vs H1 => vs.length ≤ 1000 ∧ ∀ a, H1 a = none → spIB C (.ref a :: (vs ++ [])) (upd H1 a (exo a C none)) (fun v H2 => v = .non ∧ ∃ (d : Addr) (fs : List (Str × V)), H2 a = some (exo a C (some d)) ∧ H2 d = some (exd d fs) ∧ H1 d = none ∧ E (.ref C) (some d) (upd (del H2 a) d (.xd fs))) (fun _ _ _ => False)) := by
      walk_at "rd"
      exact (mk_block hx q).2 _ (by assumption)
    rcases hx with rfl | rfl | ⟨z, rfl, hz⟩ | ⟨p, xs, rfl, hp, hl, hv⟩ | ⟨xs, rfl, hl, hn⟩
    · walk_at "rd"; exact fin
    · walk_at "rd"; exact fin
    · walk_at "rd"; exact fin
    · have ty : TyX K H (.ref p) (.type "list") := .base (.lst hp)
      walk_at "rd"; exact fin
    · have hsz : (Bt.byOf xs).size = xs.length := byOf_size xs
      walk_at "rd"
      rw [hsz, show decide (V.int ((xs.length : Nat) : Int) = V.int 512) = false from decide_eq_false (fun e => hn (by injection e; omega))]
      walk_at "rd"
      exact fin
end
end Th
namespace Th
open PySem PySem.Spec PyProof.Rows L2
local macro_rules | `(tactic| walk_at "lk") => `(tactic| first
  | assumption
  | exact upd_same
  | (refine upd_old (by assumption) ?_; walk_at "lk")
  | (refine upd_diff (by assumption) ?_; walk_at "lk")
  | (refine upd_diff (Ne.symm (by assumption)) ?_; walk_at "lk"))
local macro_rules | `(tactic| walk_at "cnd") => `(tactic| first
  | omega
  | (refine ⟨by omega, by omega⟩)
  | (refine ⟨by omega, by omega, by omega⟩)
  | (refine .inl ⟨by omega, by omega⟩)
  | (refine .inr ⟨by omega, by omega⟩)
  | (exact (show CPow _ _ from ⟨by decide, by decide, by omega⟩))
  | decide +kernel
  | (unfold CMulW; decide +kernel)
  | (exact wide_div (b := 64) (by omega) (by omega) (by decide) (by decide)))
local macro_rules | `(tactic| walk_at "rd1") => `(tactic| first
  | (with_reducible refine r_seq ?_)
  | (with_reducible refine r_asg ?_)
  | (with_reducible refine r_ret ?_)
  | (with_reducible refine r_if ?_)
  | (with_reducible refine r_gname ?_)
  | ((with_reducible refine' r_var ?hv ?_); (case hv => exact rfl))
  | (with_reducible refine r_c ?_)
  | (with_reducible refine r_op ?_)
  | (with_reducible refine r_I0 ?_)
  | ((with_reducible refine r_I ?hc ?_); (case hc => walk_at "cnd"))
  | (with_reducible refine r_test ?_)
  | (with_reducible refine r_tB ?_)
  | (with_reducible refine r_bl ?_)
  | (with_reducible refine r_not ?_)
  | (with_reducible refine r_and ?_)
  | (with_reducible refine r_or ?_)
  | (with_reducible refine r_ifE ?_)
  | (with_reducible refine r_notV ?_)
  | (with_reducible refine r_andV ?_)
  | (with_reducible refine r_orV ?_)
  | (with_reducible refine r_chain ?_)
  | (with_reducible refine r_cb ?_)
  | (with_reducible refine r_call ?_)
  | (with_reducible refine r_callN ?_)
  | (with_reducible refine r_nil ?_)
  | (with_reducible refine r_cons ?_)
  | ((with_reducible refine r_lst ?_))
  | ((with_reducible refine r_tup ?_))
  | ((with_reducible refine r_new ?_ ?_); (exact Nat.le_of_ble_eq_true rfl); (intro p hp))
  | (with_reducible refine r_rInt1 ?_)
  | (with_reducible refine r_rIntB ?_)
  | (with_reducible refine r_rAbs ?_)
  | (with_reducible refine r_rMin2 ?_)
  | (with_reducible refine r_rMax2 ?_)
  | ((with_reducible refine r_rLenZ ?hz ?_); (case hz => first | assumption | exact Nat.le_of_ble_eq_true rfl | (refine Nat.le_trans ?_ (by decide : 100000 ≤ sizeLine); omega)))
  | ((with_reducible refine r_addZ ?hz ?_); (case hz => (refine Nat.le_trans ?_ (by decide : 100000 ≤ sizeLine); first | omega | (simp only [Str.length] at *; simp; omega))))
  | ((with_reducible refine r_mulZ ?hz ?h0 ?h1 ?_); (case hz => first | omega | exact Nat.le_of_ble_eq_true rfl); (case h0 => omega); (case h1 => omega))
  | ((with_reducible refine' r_rLenQ ?h1 ?_); (case h1 => first | (exact .inl (by assumption)) | (exact .inr (by assumption)) | (exact .inl (SqL.of (by walk_at "lk"))) | (exact .inr (SqT.of (by walk_at "lk")))))
  | ((with_reducible refine r_eq ?hs ?_); (case hs => exact rfl))
  | ((with_reducible refine r_ne ?hs ?_); (case hs => exact rfl))
  | (with_reducible refine r_inC ?_)
  | ((with_reducible refine' r_cat ?h1 ?h2 ?h3 ?_); (case h1 => walk_at "lk"); (case h2 => walk_at "lk"); (case h3 => exact Nat.le_of_ble_eq_true rfl); (intro p hp))
  | ((with_reducible refine' r_rep ?h1 ?h2 ?h3 ?h4 ?_); (case h1 => walk_at "lk"); (case h2 => omega); (case h3 => omega); (case h4 => exact Nat.le_of_ble_eq_true rfl); (intro p hp))
  | ((with_reducible refine' r_append ?h1 ?h2 ?_); (case h1 => walk_at "lk"); (case h2 => first | exact (show _ + 1 ≤ sizeLine from Nat.le_of_ble_eq_true rfl) | exact Nat.lt_of_le_of_lt (by omega : _ ≤ 100000) (by decide)))
  | (with_reducible refine r_bm ?_)
  | ((with_reducible refine' r_tyL ?h1 ?_); (case h1 => walk_at "lk"))
  | ((with_reducible refine' r_ixL ?h1 ?h2 ?_); (case h1 => first | assumption | exact SqL.of (by walk_at "lk")); (case h2 => exact rfl))
  | ((with_reducible refine' r_ixT ?h1 ?h2 ?_); (case h1 => first | assumption | exact SqT.of (by walk_at "lk")); (case h2 => exact rfl))
  | (with_reducible refine r_gsub ?_)
  | ((with_reducible refine' r_setL ?h1 ?h2 ?_); (case h1 => walk_at "lk"); (case h2 => exact rfl))
  | (with_reducible refine r_un ?_)
  | (with_reducible refine r_neg ?_)
  | (with_reducible refine r_iteT ?_)
  | (with_reducible refine r_iteNT ?_)
  | (with_reducible refine r_iteNF ?_)
  | (with_reducible refine r_iteF ?_)
  | (with_reducible refine r_next ?_)
  | (with_reducible refine r_drop ?_)
  | (with_reducible refine r_cont ?_)
  | (with_reducible refine r_brk ?_))
local macro_rules | `(tactic| walk_at "ty") => `(tactic| first
  | assumption
  | exact .base (.int _)
  | exact .base (.str _)
  | exact .base (.bl _)
  | exact .base .non
  | exact .byt _
  | exact .base (.lst (by walk_at "lk"))
  | exact .base (.tup (by walk_at "lk")))
local macro_rules | `(tactic| walk_at "rd2") => `(tactic| first
  | walk_at "rd1"
  | ((with_reducible refine' r_isi true ?ht ?hk ?_); (case ht => walk_at "ty"); (case hk => first | assumption | decide +kernel))
  | ((with_reducible refine' r_isi false ?ht ?hk ?_); (case ht => walk_at "ty"); (case hk => first | assumption | decide +kernel))
  | ((with_reducible refine' r_isiT2 true true ?hT ?ht ?hk ?hk2 ?_); (case hT => walk_at "lk"); (case ht => walk_at "ty"); (case hk => decide +kernel); (case hk2 => decide +kernel))
  | ((with_reducible refine' r_isiT2 true false ?hT ?ht ?hk ?hk2 ?_); (case hT => walk_at "lk"); (case ht => walk_at "ty"); (case hk => decide +kernel); (case hk2 => decide +kernel))
  | ((with_reducible refine' r_isiT2 false true ?hT ?ht ?hk ?hk2 ?_); (case hT => walk_at "lk"); (case ht => walk_at "ty"); (case hk => decide +kernel); (case hk2 => decide +kernel))
  | ((with_reducible refine' r_isiT2 false false ?hT ?ht ?hk ?hk2 ?_); (case hT => walk_at "lk"); (case ht => walk_at "ty"); (case hk => decide +kernel); (case hk2 => decide +kernel))
  | (with_reducible refine r_iteNT ?_)
  | ((show (if (!true) = true then _ else _)); refine r_iteNT ?_)
  | (with_reducible refine r_r1 ?_)
  | (with_reducible refine r_maks ?_)
  | (with_reducible refine r_sfld ?_)
  | ((with_reducible refine' r_sfldE ?h1 ?h2 ?h3 ?h4 ?_); (case h1 => walk_at "lk"); (case h2 => assumption); (case h3 => assumption); (case h4 => exact (show _ + 1 ≤ 1000 from Nat.le_of_ble_eq_true rfl)))
  | (with_reducible refine r_fld ?_)
  | (with_reducible refine r_join ?_)
  | (with_reducible refine r_jcons ?_)
  | (with_reducible refine r_jnil ?_)
  | ((with_reducible refine r_rLenY ?hz ?_); (case hz => first | assumption | (refine Nat.le_trans ?_ (by decide : 100000 ≤ sizeLine); omega)))
  | (with_reducible refine r_par ?_)
  | (with_reducible refine r_pair ?_)
  | (with_reducible refine r_par3 ?_)
  | (with_reducible refine r_trip ?_)
  | ((with_reducible refine' r_gtup ?h1 ?h2 ?_); (case h1 => first | assumption | exact SqT.of (by walk_at "lk")); (case h2 => exact rfl))
  | (with_reducible refine r_gcons ?_)
  | (with_reducible refine r_gnil ?_)
  | ((with_reducible refine' r_slL ?h1 ?_); (case h1 => first | assumption | exact SqL.of (by walk_at "lk")); (intro p hp))
  | (with_reducible refine r_iTup ?_)
  | ((with_reducible refine' r_tupE ?h1 ?_); (case h1 => first | assumption | exact SqT.of (by walk_at "lk")))
  | (with_reducible refine r_m1 ?_)
  | (with_reducible refine r_isZ ?_)
  | (with_reducible refine r_sl ?_)
  | (with_reducible refine r_noPart ?_)
  | (with_reducible refine r_part ?_)
  | (with_reducible refine r_partE ?_)
  | ((with_reducible refine r_slS ?hz ?_); (case hz => first | assumption | (refine Nat.le_trans ?_ (by decide : 100000 ≤ sizeLine); omega)))
  | ((with_reducible refine' r_inT ?h1 ?h2 ?h3 ?_); (case h1 => first | assumption | (exact SqT.of (by walk_at "lk"))); (case h2 => exact rfl); (case h3 => exact rfl))
  | ((with_reducible refine' r_inL ?h1 ?h2 ?h3 ?_); (case h1 => first | assumption | (exact SqL.of (by walk_at "lk"))); (case h2 => exact rfl); (case h3 => exact rfl))
  | (with_reducible refine r_lc ?_)
  | (with_reducible refine r_for ?_)
  | (with_reducible refine r_iStr ?_)
  | (with_reducible refine r_strE ?_)
  | (with_reducible refine r_iList ?_)
  | ((with_reducible refine' r_listE ?h1 ?_); (case h1 => first | assumption | exact SqL.of (by walk_at "lk")))
  | (with_reducible refine r_iRng1 ?_)
  | ((with_reducible refine' r_rngE ?h0 ?h1 ?_); (case h0 => first | omega | (split <;> omega)); (case h1 => first | omega | (split <;> omega))))
local macro_rules | `(tactic| walk_at "rd") => `(tactic| (repeat walk_at "rd2"))
local macro_rules | `(tactic| walk_at "st") => `(tactic| (repeat (first
  | (with_reducible refine r_gname ?_)
  | (with_reducible refine r_next ?_)
  | (with_reducible refine r_seq ?_)
  | (with_reducible refine r_asg ?_)
  | (with_reducible refine r_ret ?_)
  | (with_reducible refine r_for ?_)
  | (with_reducible refine r_iRng1 ?_)
  | (with_reducible refine r_iList ?_)
  | (with_reducible refine r_cons ?_)
  | (with_reducible refine r_par ?_)
  | (with_reducible refine r_par3 ?_))))
/-! ### calls that may raise; defs that may lean on it that nothing is being shown -/
structure CalX (P : Program) (w : World) (K : PySem.W.Frag) (mg : Str → Option Value) (base : Heap) (k : Nat) (x : Str) (sp : Sp) : Prop where
  ex : ∃ (f : Addr) (fd : FuncData) (ps : List Str), FnOk P w K mg base (L2.CX P w) k f fd ps sp ∧ mg x = some (.ref f) ∧ PySem.W.keepIn K (.ref f) = true ∧ Binds K fd ps []
structure CalG (P : Program) (w : World) (K : PySem.W.Frag) (mg : Str → Option Value) (base : Heap) (k : Nat) (x : Str) (sp : Sp) : Prop where
  ex : ∃ (f : Addr) (fd : FuncData) (ps : List Str), FnG P w K mg base k f fd ps sp ∧ mg x = some (.ref f) ∧ PySem.W.keepIn K (.ref f) = true ∧ Binds K fd ps []
section
variable {X : Cx} {j k : Nat} {x : Str} {sp : Sp} {e : Expr} {es : List Expr} {p pos : Pos} {t : TA}
theorem pe_ccX {E : L2.St → XK} (c : CalX X.prog X.w X.K X.mg X.base k x sp) (hr : Room j X.A) (hk : k ≤ j) (hg : Gl X x) (hx : ∀ σ, PassesAt (L2.CX X.prog X.w) X σ (E σ)) (ha : PA X (e :: es) t) (hdb : (x == ("__debug__" : Str)) = false := by decide)
    (he : starEach (e :: es) X.env = (false, eval e X.env) :: starEach es X.env := by rfl) (hpl : (backTo pos (starEach es X.env)).any (·.1) = false := by rfl) : PE X (.Call (.Name x p) (e :: es) [] pos) (tCallS sp E t) := by
  obtain ⟨f, fd, ps, F, hm, kp, b⟩ := c.ex
  exact pe_callS F (hr.mono hk) hg hm kp b hx ha hdb he hpl
theorem run_fnG {pins : List (Addr × Obj)} {σ : L2.St} {H : Hp} {s : Shared} {Q : VK} {f : Addr} {fd : FuncData} {ps : List Str} {us : List Value} {vs : List V} (F : FnG X.prog X.w X.K X.mg X.base k f fd ps sp) (gd : X.A.guards = some []) (hr : Room k X.A) (hb : Binds X.K fd ps [])
    (I : Inv X pins σ H s) (r : Vals vs us) (h : sp (vs ++ []) H Q E0) : wpAny (model X.prog X.w) X.A (call (.ref f) us) (EP X pins σ Q) X.xe s := by
  rw [List.append_nil] at h
  have hl : us.length = ps.length := by rw [← r.length]; exact F.len _ _ _ _ h
  have b := hb s us I.kIn (by rw [List.append_nil]; exact hl)
  rw [List.append_nil] at b
  refine wpAny_call (codeAny_mono (F.run X.A X.stack s H ⟨us, []⟩ us vs Q E0 hr gd I.env0 b r h) fun r s' hq => ?_)
  cases r with
  | error e => exact False.elim hq
  | ok fl =>
    cases fl with
    | ret u => exact I.after hq
    | next => exact False.elim hq
    | brk => exact False.elim hq
    | cont => exact False.elim hq
theorem pe_ccG (c : CalG X.prog X.w X.K X.mg X.base k x sp) (gd : X.A.guards = some []) (hr : Room j X.A) (hk : k ≤ j) (hg : Gl X x) (ha : PA X (e :: es) t) (hdb : (x == ("__debug__" : Str)) = false := by decide)
    (he : starEach (e :: es) X.env = (false, eval e X.env) :: starEach es X.env := by rfl) (hpl : (backTo pos (starEach es X.env)).any (·.1) = false := by rfl) : PE X (.Call (.Name x p) (e :: es) [] pos) (tCall sp [] E0 t) := by
  obtain ⟨f, fd, ps, F, hm, kp, b⟩ := c.ex
  refine ⟨fun pins s σ H Q I h => ?_⟩
  refine wpAny_Call_Name_kw (ld_glob I hg hm ?_ hdb)
  refine PySem.W.callWith_K (h₀ := X.base) I.ok.mod.kin kp (thn (ha.run pos pins s σ H _ I h) fun us s1 ⟨vs, H1, I1, r, q⟩ => ⟨I1.kIn, ?_⟩) he hpl
  exact run_fnG F gd (hr.mono hk) b I1 r q
end
/-! ### the error in the suite: isinstance, a field -/
def rIsE (K : PySem.W.Frag) (a : Addr) (cls : Value) (d : Option Addr) : List V → Hp → VK → Prop := fun xs H Q => ∃ D fI dd, ExG K D fI ∧ cls = .ref D ∧ d = some dd ∧ rIsEd K D a dd xs H Q
theorem call_isE {X : Cx} {a : Addr} {oe : Obj} {cls : Value} {d : Option Addr} {pn : List (Addr × Obj)} (K : PySem.W.Frag) (hz : Zc cls d oe) (hf : ∃ vs, oe.data = .fields vs) (h : X.K = K := by rfl) : CallR (X.suite a ((a, oe) :: pn)) (.builtin "isinstance") (rIsE K a cls d) := by
  subst h
  intro pins s σ H xs us Q I r h
  obtain ⟨D, fI, dd, T, rfl, rfl, h⟩ := h
  exact call_isEd T hz hf pins s σ H xs us Q I r h
def rIsEt (K : PySem.W.Frag) (a : Addr) (cls : Value) (d : Option Addr) : List V → Hp → VK → Prop := fun xs H Q => ∃ (D fI dd tp : Addr) (cs : List V) (ws : List Value) (b : Bool) (fs : List (Str × V)), ExG K D fI ∧ cls = .ref D ∧ d = some dd ∧ xs = [.ref a, .ref tp] ∧ H dd = some (.xd fs) ∧ H tp = some (.tup cs) ∧ Paired ClsV cs ws ∧ PySem.W.kitAny K (.ref D) ws = some b ∧ Q (.bl b) H
theorem call_isEt {X : Cx} {a : Addr} {oe : Obj} {cls : Value} {d : Option Addr} {pn : List (Addr × Obj)} (K : PySem.W.Frag) (hz : Zc cls d oe) (hf : ∃ vs, oe.data = .fields vs) (h : X.K = K := by rfl) : CallR (X.suite a ((a, oe) :: pn)) (.builtin "isinstance") (rIsEt K a cls d) := by
  subst h
  intro pins s σ H xs us Q I r h
  obtain ⟨D, fI, dd, tp, cs, ws, b, fs, T, rfl, rfl, rfl, ed, hT, kc, e, q⟩ := h
  obtain ⟨u1, u2, rfl, r1, r2⟩ := vals2 r
  cases (show u1 = Value.ref a from r1)
  cases (show u2 = Value.ref tp from r2)
  obtain ⟨hget, _⟩ := I.pin (a, oe) (List.mem_append.mpr (.inl List.mem_cons_self))
  obtain ⟨vs, hv⟩ := hf
  have hx : ObjOk X.prog X.w H s.heap dd (.xd fs) := I.hok dd _ ed
  obtain ⟨mA, hns, hr⟩ := hx
  obtain ⟨od, hod, _⟩ := lookIn_ns hns
  have J : PySem.W.InstAt s.heap a oe D (some od) := ⟨hget, hz.1, by unfold PySem.W.notCls; rw [hv] <;> rfl, by rw [hz.2]; exact hod⟩
  have hcl : (PySem.W.clsIn X.K D).isSome = true := by
    obtain ⟨cd, hc, _⟩ := PySem.W.any_some T.hd
    rw [hc]
    rfl
  obtain ⟨_, its, rv, o, h1, h2, n, h3⟩ := (show ObjOk X.prog X.w H s.heap tp (.tup cs) from I.hok tp _ hT)
  have e3 := ClsV.all kc rv
  subst e3
  obtain ⟨oc, odx, dt, sl⟩ := o
  simp only at h2 h3
  subst h2 h3
  exact PySem.W.kia_tup (PySem.W.kitx_exc hcl T.ga T.gg T.exC T.ha T.hn T.ht T.hm) I.kIn J h1 e (fun z => nomatch z) fun tk => ⟨.bl b, H, I.kept (t' := tk) fun _ _ z => z, rfl, q⟩
/-- e.f, e the exception that the suite holds -/
def tSuF (K : PySem.W.Frag) (a : Addr) (cls : Value) (d : Option Addr) (f : Str) (te : TE) : TE := fun σ H Q => te σ H fun x H1 => ∃ (D fI dd : Addr) (fs : List (Str × V)) (v : V), ExG K D fI ∧ PySem.W.findIn K (.ref D) f = some none ∧ cls = .ref D ∧ d = some dd ∧ x = .ref a ∧ H1 dd = some (.xd fs) ∧ List.lookup f fs = some v ∧ Q v H1
theorem pe_suF {X : Cx} {a : Addr} {oe : Obj} {cls : Value} {d : Option Addr} {pn : List (Addr × Obj)} {e : Expr} {te : TE} {pos : Pos} {f : Str} (K : PySem.W.Frag) (hz : Zc cls d oe) (hf : ∃ vs, oe.data = .fields vs) (he : PE (X.suite a ((a, oe) :: pn)) e te)
    (hb : attributeBase e f X.env (eval e X.env) = eval e X.env := by rfl) (h : X.K = K := by rfl) : PE (X.suite a ((a, oe) :: pn)) (.Attribute e f pos) (tSuF K a cls d f te) := by
  subst h
  refine ⟨fun pins s σ H Q I h => ?_⟩
  refine attr_of hb (thn (he.run pins s σ H _ I h) fun u s1 hh => ?_)
  obtain ⟨x, H1, I1, rx, D, fI, dd, fs, v, T, hno, rfl, rfl, rfl, ea, l, q⟩ := hh
  obtain rfl : u = Value.ref a := rx
  obtain ⟨ha, _⟩ := I1.pin (a, oe) (List.mem_append_left _ List.mem_cons_self)
  obtain ⟨vs, hd⟩ := hf
  have hx : ObjOk X.prog X.w H1 s1.heap dd (.xd fs) := I1.hok dd _ ea
  obtain ⟨mA, hns, hr⟩ := hx
  obtain ⟨od, ho, hl⟩ := lookIn_ns hns
  obtain ⟨u, hu, ru⟩ := RelO.some_of (v := v) (o := mA f) (by rw [← l]; exact hr f)
  have J : PySem.W.InstAt s1.heap a oe D (some od) := ⟨ha, hz.1, by unfold PySem.W.notCls; rw [hd] <;> rfl, by rw [hz.2]; exact ho⟩
  exact HandSPX.exc_get I1.kIn J T.ga T.gg T.exC (PySem.W.findObj_own T.hd hno rfl (by rw [hl, hu])) (handed_of ru) ⟨v, H1, I1.tok _, ru, q⟩
/-! ### repr of any of these values -/
def rReprX (K : PySem.W.Frag) : List V → Hp → VK → Prop := fun xs H Q => (xs = [.non] ∧ Q (.str "None") H) ∨ (∃ i : Int, xs = [.int i] ∧ i.natAbs.log2 < 1920 ∧ Q (.str (toString i)) H) ∨ (∃ z, xs = [.str z] ∧ (reprText z).length ≤ sizeLine ∧ Q (.str (reprText z)) H) ∨
  (∃ b, xs = [.byt b] ∧ b.size ≤ 5000 ∧ Q (.str (Builtin.Bytes.literal b)) H) ∨ rRepr K xs H Q
theorem call_reprX {X : Cx} (K : PySem.W.Frag) (gd : X.A.guards = some []) (hu : X.A.units + 64 < cLine) (h : X.K = K := by rfl) : CallR X (.builtin "repr") (rReprX K) := by
  intro pins s σ H xs us Q I r h0
  rcases h0 with ⟨rfl, q⟩ | ⟨i, rfl, hz, q⟩ | ⟨z, rfl, hz, q⟩ | ⟨b, rfl, hz, q⟩ | h0
  · obtain ⟨u, rfl, rx⟩ := vals1 r
    cases (show u = Value.none from rx)
    exact PySem.P.repr_of_none ⟨.str _, H, I.tok _, ⟨_, rfl⟩, q⟩
  · obtain ⟨u, rfl, t, rfl⟩ := vals1 r
    exact PySem.P.repr_of_int hz ⟨.str _, H, I.tok _, ⟨_, rfl⟩, q⟩
  · obtain ⟨u, rfl, t, rfl⟩ := vals1 r
    exact PySem.P.repr_of_str ⟨.str _, H, I.tok _, ⟨_, rfl⟩, q⟩ hz
  · obtain ⟨u, rfl, t, rfl⟩ := vals1 r
    exact PySem.BtR.repr_of_bytes hz ⟨.str _, H, I.tok _, ⟨_, rfl⟩, q⟩
  · exact call_reprK K gd hu h pins s σ H xs us Q I r h0
end Th
namespace Th
open PySem PySem.Spec PyProof.Rows L2
local macro_rules | `(tactic| walk_at "lk") => `(tactic| first
  | assumption
  | exact upd_same
  | (refine upd_old (by assumption) ?_; walk_at "lk")
  | (refine upd_diff (by assumption) ?_; walk_at "lk")
  | (refine upd_diff (Ne.symm (by assumption)) ?_; walk_at "lk"))
local macro_rules | `(tactic| walk_at "cnd") => `(tactic| first
  | omega
  | (refine ⟨by omega, by omega⟩)
  | (refine ⟨by omega, by omega, by omega⟩)
  | (refine .inl ⟨by omega, by omega⟩)
  | (refine .inr ⟨by omega, by omega⟩)
  | (exact (show CPow _ _ from ⟨by decide, by decide, by omega⟩))
  | decide +kernel
  | (unfold CMulW; decide +kernel)
  | (exact wide_div (b := 64) (by omega) (by omega) (by decide) (by decide)))
local macro_rules | `(tactic| walk_at "rd1") => `(tactic| first
  | (with_reducible refine r_seq ?_)
  | (with_reducible refine r_asg ?_)
  | (with_reducible refine r_ret ?_)
  | (with_reducible refine r_if ?_)
  | (with_reducible refine r_gname ?_)
  | ((with_reducible refine' r_var ?hv ?_); (case hv => exact rfl))
  | (with_reducible refine r_c ?_)
  | (with_reducible refine r_op ?_)
  | (with_reducible refine r_I0 ?_)
  | ((with_reducible refine r_I ?hc ?_); (case hc => walk_at "cnd"))
  | (with_reducible refine r_test ?_)
  | (with_reducible refine r_tB ?_)
  | (with_reducible refine r_bl ?_)
  | (with_reducible refine r_not ?_)
  | (with_reducible refine r_and ?_)
  | (with_reducible refine r_or ?_)
  | (with_reducible refine r_ifE ?_)
  | (with_reducible refine r_notV ?_)
  | (with_reducible refine r_andV ?_)
  | (with_reducible refine r_orV ?_)
  | (with_reducible refine r_chain ?_)
  | (with_reducible refine r_cb ?_)
  | (with_reducible refine r_call ?_)
  | (with_reducible refine r_callN ?_)
  | (with_reducible refine r_nil ?_)
  | (with_reducible refine r_cons ?_)
  | ((with_reducible refine r_lst ?_))
  | ((with_reducible refine r_tup ?_))
  | ((with_reducible refine r_new ?_ ?_); (exact Nat.le_of_ble_eq_true rfl); (intro p hp))
  | (with_reducible refine r_rInt1 ?_)
  | (with_reducible refine r_rIntB ?_)
  | (with_reducible refine r_rAbs ?_)
  | (with_reducible refine r_rMin2 ?_)
  | (with_reducible refine r_rMax2 ?_)
  | ((with_reducible refine r_rLenZ ?hz ?_); (case hz => first | assumption | exact Nat.le_of_ble_eq_true rfl | (refine Nat.le_trans ?_ (by decide : 100000 ≤ sizeLine); omega)))
  | ((with_reducible refine r_addZ ?hz ?_); (case hz => (refine Nat.le_trans ?_ (by decide : 100000 ≤ sizeLine); first | omega | (simp only [Str.length] at *; simp; omega))))
  | ((with_reducible refine r_mulZ ?hz ?h0 ?h1 ?_); (case hz => first | omega | exact Nat.le_of_ble_eq_true rfl); (case h0 => omega); (case h1 => omega))
  | ((with_reducible refine' r_rLenQ ?h1 ?_); (case h1 => first | (exact .inl (by assumption)) | (exact .inr (by assumption)) | (exact .inl (SqL.of (by walk_at "lk"))) | (exact .inr (SqT.of (by walk_at "lk")))))
  | ((with_reducible refine r_eq ?hs ?_); (case hs => exact rfl))
  | ((with_reducible refine r_ne ?hs ?_); (case hs => exact rfl))
  | (with_reducible refine r_inC ?_)
  | ((with_reducible refine' r_cat ?h1 ?h2 ?h3 ?_); (case h1 => walk_at "lk"); (case h2 => walk_at "lk"); (case h3 => exact Nat.le_of_ble_eq_true rfl); (intro p hp))
  | ((with_reducible refine' r_rep ?h1 ?h2 ?h3 ?h4 ?_); (case h1 => walk_at "lk"); (case h2 => omega); (case h3 => omega); (case h4 => exact Nat.le_of_ble_eq_true rfl); (intro p hp))
  | ((with_reducible refine' r_append ?h1 ?h2 ?_); (case h1 => walk_at "lk"); (case h2 => first | exact (show _ + 1 ≤ sizeLine from Nat.le_of_ble_eq_true rfl) | exact Nat.lt_of_le_of_lt (by omega : _ ≤ 100000) (by decide)))
  | (with_reducible refine r_bm ?_)
  | ((with_reducible refine' r_tyL ?h1 ?_); (case h1 => walk_at "lk"))
  | ((with_reducible refine' r_ixL ?h1 ?h2 ?_); (case h1 => first | assumption | exact SqL.of (by walk_at "lk")); (case h2 => exact rfl))
  | ((with_reducible refine' r_ixT ?h1 ?h2 ?_); (case h1 => first | assumption | exact SqT.of (by walk_at "lk")); (case h2 => exact rfl))
  | (with_reducible refine r_gsub ?_)
  | ((with_reducible refine' r_setL ?h1 ?h2 ?_); (case h1 => walk_at "lk"); (case h2 => exact rfl))
  | (with_reducible refine r_un ?_)
  | (with_reducible refine r_neg ?_)
  | (with_reducible refine r_iteT ?_)
  | (with_reducible refine r_iteNT ?_)
  | (with_reducible refine r_iteNF ?_)
  | (with_reducible refine r_iteF ?_)
  | (with_reducible refine r_next ?_)
  | (with_reducible refine r_drop ?_)
  | (with_reducible refine r_cont ?_)
  | (with_reducible refine r_brk ?_))
local macro_rules | `(tactic| walk_at "ty") => `(tactic| first
  | assumption
  | exact .base (.int _)
  | exact .base (.str _)
  | exact .base (.bl _)
  | exact .base .non
  | exact .byt _
  | exact .base (.lst (by walk_at "lk"))
  | exact .base (.tup (by walk_at "lk")))
local macro_rules | `(tactic| walk_at "rd2") => `(tactic| first
  | walk_at "rd1"
  | ((with_reducible refine' r_isi true ?ht ?hk ?_); (case ht => walk_at "ty"); (case hk => first | assumption | decide +kernel))
  | ((with_reducible refine' r_isi false ?ht ?hk ?_); (case ht => walk_at "ty"); (case hk => first | assumption | decide +kernel))
  | ((with_reducible refine' r_isiT2 true true ?hT ?ht ?hk ?hk2 ?_); (case hT => walk_at "lk"); (case ht => walk_at "ty"); (case hk => decide +kernel); (case hk2 => decide +kernel))
  | ((with_reducible refine' r_isiT2 true false ?hT ?ht ?hk ?hk2 ?_); (case hT => walk_at "lk"); (case ht => walk_at "ty"); (case hk => decide +kernel); (case hk2 => decide +kernel))
  | ((with_reducible refine' r_isiT2 false true ?hT ?ht ?hk ?hk2 ?_); (case hT => walk_at "lk"); (case ht => walk_at "ty"); (case hk => decide +kernel); (case hk2 => decide +kernel))
  | ((with_reducible refine' r_isiT2 false false ?hT ?ht ?hk ?hk2 ?_); (case hT => walk_at "lk"); (case ht => walk_at "ty"); (case hk => decide +kernel); (case hk2 => decide +kernel))
  | (with_reducible refine r_iteNT ?_)
  | ((show (if (!true) = true then _ else _)); refine r_iteNT ?_)
  | (with_reducible refine r_r1 ?_)
  | (with_reducible refine r_maks ?_)
  | (with_reducible refine r_sfld ?_)
  | ((with_reducible refine' r_sfldE ?h1 ?h2 ?h3 ?h4 ?_); (case h1 => walk_at "lk"); (case h2 => assumption); (case h3 => assumption); (case h4 => exact (show _ + 1 ≤ 1000 from Nat.le_of_ble_eq_true rfl)))
  | (with_reducible refine r_fld ?_)
  | (with_reducible refine r_join ?_)
  | (with_reducible refine r_jcons ?_)
  | (with_reducible refine r_jnil ?_)
  | ((with_reducible refine r_rLenY ?hz ?_); (case hz => first | assumption | (refine Nat.le_trans ?_ (by decide : 100000 ≤ sizeLine); omega)))
  | (with_reducible refine r_par ?_)
  | (with_reducible refine r_pair ?_)
  | (with_reducible refine r_par3 ?_)
  | (with_reducible refine r_trip ?_)
  | ((with_reducible refine' r_gtup ?h1 ?h2 ?_); (case h1 => first | assumption | exact SqT.of (by walk_at "lk")); (case h2 => exact rfl))
  | (with_reducible refine r_gcons ?_)
  | (with_reducible refine r_gnil ?_)
  | ((with_reducible refine' r_slL ?h1 ?_); (case h1 => first | assumption | exact SqL.of (by walk_at "lk")); (intro p hp))
  | (with_reducible refine r_iTup ?_)
  | ((with_reducible refine' r_tupE ?h1 ?_); (case h1 => first | assumption | exact SqT.of (by walk_at "lk")))
  | (with_reducible refine r_m1 ?_)
  | (with_reducible refine r_isZ ?_)
  | (with_reducible refine r_sl ?_)
  | (with_reducible refine r_noPart ?_)
  | (with_reducible refine r_part ?_)
  | (with_reducible refine r_partE ?_)
  | ((with_reducible refine r_slS ?hz ?_); (case hz => first | assumption | (refine Nat.le_trans ?_ (by decide : 100000 ≤ sizeLine); omega)))
  | ((with_reducible refine' r_inT ?h1 ?h2 ?h3 ?_); (case h1 => first | assumption | (exact SqT.of (by walk_at "lk"))); (case h2 => exact rfl); (case h3 => exact rfl))
  | ((with_reducible refine' r_inL ?h1 ?h2 ?h3 ?_); (case h1 => first | assumption | (exact SqL.of (by walk_at "lk"))); (case h2 => exact rfl); (case h3 => exact rfl))
  | (with_reducible refine r_lc ?_)
  | (with_reducible refine r_for ?_)
  | (with_reducible refine r_iStr ?_)
  | (with_reducible refine r_strE ?_)
  | (with_reducible refine r_iList ?_)
  | ((with_reducible refine' r_listE ?h1 ?_); (case h1 => first | assumption | exact SqL.of (by walk_at "lk")))
  | (with_reducible refine r_iRng1 ?_)
  | ((with_reducible refine' r_rngE ?h0 ?h1 ?_); (case h0 => first | omega | (split <;> omega)); (case h1 => first | omega | (split <;> omega))))
local macro_rules | `(tactic| walk_at "rd") => `(tactic| (repeat walk_at "rd2"))
local macro_rules | `(tactic| walk_at "st") => `(tactic| (repeat (first
  | (with_reducible refine r_gname ?_)
  | (with_reducible refine r_next ?_)
  | (with_reducible refine r_seq ?_)
  | (with_reducible refine r_asg ?_)
  | (with_reducible refine r_ret ?_)
  | (with_reducible refine r_for ?_)
  | (with_reducible refine r_iRng1 ?_)
  | (with_reducible refine r_iList ?_)
  | (with_reducible refine r_cons ?_)
  | (with_reducible refine r_par ?_)
  | (with_reducible refine r_par3 ?_))))
/-! ### the text of a list of bytes' numbers -/
theorem nat_shown : ∀ x ∈ List.range 256, ((PyData.int ((x : Nat) : Int)).showable && (PyData.int ((x : Nat) : Int)).intsShort 13 && decide ((PyData.int ((x : Nat) : Int)).weight ≤ 8)) = true := by decide +kernel
theorem list_shown : ∀ (xs : List Nat), (∀ v ∈ xs, v < 256) → PyData.showableAll ((nL xs).map PyData.int) = true ∧ PyData.hasDictAll ((nL xs).map PyData.int) = false ∧ PyData.depthAll ((nL xs).map PyData.int) = 0 ∧ PyData.canLayAll0 ((nL xs).map PyData.int) = true ∧
    PyData.intsShortAll 13 ((nL xs).map PyData.int) = true ∧ PyData.weightAll ((nL xs).map PyData.int) ≤ 9 * xs.length
  | [], _ => by decide
  | x :: xs, h => by
    obtain ⟨h1, h2, h3, h4, h5, h6⟩ := list_shown xs fun v hv => h v (List.mem_cons_of_mem _ hv)
    have hx := nat_shown x (List.mem_range.mpr (h x List.mem_cons_self))
    simp only [Bool.and_eq_true, decide_eq_true_eq] at hx
    rw [show nL (x :: xs) = ((x : Nat) : Int) :: nL xs from rfl, List.map_cons]
    refine ⟨?_, ?_, ?_, ?_, ?_, ?_⟩
    · show (PyData.showable _ && PyData.showableAll _) = true
      rw [hx.1.1, h1]; rfl
    · show (PyData.hasDict _ || PyData.hasDictAll _) = false
      rw [h2]; rfl
    · show max (PyData.depth _) (PyData.depthAll _) = 0
      rw [h3]; rfl
    · show (PyData.canLay0 _ && PyData.canLayAll0 _) = true
      rw [h4]; rfl
    · show (PyData.intsShort 13 _ && PyData.intsShortAll 13 _) = true
      rw [hx.1.2, h5]; rfl
    · show PyData.weight (.int ((x : Nat) : Int)) + 1 + PyData.weightAll ((nL xs).map PyData.int) ≤ 9 * (xs.length + 1)
      have := hx.2
      omega
theorem r_reprN {K : PySem.W.Frag} {H : Hp} {Q : VK} {p : Addr} {xs : List Nat} (hp : LN H p xs) (hl : xs.length ≤ 512) (hv : ∀ v ∈ xs, v < 256) (q : Q (.str (PyData.list ((nL xs).map PyData.int)).shown) H) : rReprX K [.ref p] H Q := by
  obtain ⟨h1, h2, h3, h4, h5, h6⟩ := list_shown xs hv
  have hd : (PyData.list ((nL xs).map PyData.int)).depth = 1 := by
    show PyData.depthAll _ + 1 = 1
    rw [h3]
  have hlay : PyData.layable0 (.list ((nL xs).map PyData.int)) = true := by
    show (PyData.canLayAll0 _ && decide (PyData.depth (.list _) ≤ 64) && decide (PyData.weightAll _ ≤ 2 ^ 20)) = true
    rw [h4, hd, decide_eq_true (show PyData.weightAll ((nL xs).map PyData.int) ≤ 2 ^ 20 by omega)]
    rfl
  have hlen := shown_le13 hlay (show PyData.intsShortAll 13 _ = true from h5)
  exact .inr (.inr (.inr (.inr (r_repr (.lst (SqL.of hp) (dpa_ints _)) h1 h2 (by rw [hd]; decide) (Nat.le_trans hlen (by rw [sizeLine_eq]; decide)) q))))
theorem asc_repr {z : Str} (h : PySem.W.KSb.Asc z) (hl : z.length ≤ 512) : (reprText z).length ≤ sizeLine := by
  have h1 := StrLaws.reprText_len z (fun c hc => Nat.lt_trans (h c hc) (by decide))
  rw [sizeLine_eq]
  omega
section
variable {P : Program} {w : World} {K : PySem.W.Frag} {mg : Str → Option Value} {base : Heap}
theorem ok_refused {f C fI cB cD cM : Addr} {fd : FuncData} {k : Nat} (F : Fun K "_law_refused" "_law_refused" s__law_refused f fd) (T : ExG K C fI) (hno : PySem.W.findIn K (.ref C) "thing" = some none) (kT : PySem.W.kitOne K (.ref C) (.type "TypeError") = some true)
    (kN : PySem.W.kitAny K (.ref C) [.ref cB, .ref cD, .ref cM] = some false) (ex : PySem.W.exmOne K (.ref C) (.ref C) = some true) (mB : mg "NoBlock" = some (.ref C)) (mNb : mg "NoBlob" = some (.ref cB)) (mNd : mg "NoData" = some (.ref cD)) (mNm : mg "NoMember" = some (.ref cM))
    (m1 : mg "isinstance" = none) (m2 : mg "TypeError" = none) (m3 : mg "repr" = none) (x_checksum : CalX P w K mg base 5 "checksum" (spCheckX C)) : FnG P w K mg base (k + 6) f fd ["_law_thing"] (spRefused Odd) := by
  refine Fun.okG (k := k + 5) F sc__law_refused (fun vs H Q E h => ?_) (fun cdv A outer s H vs Q E hr gd0 h => ?_)
  · obtain ⟨x, rfl, _⟩ := h
    rfl
  · obtain ⟨x, rfl, hx, q⟩ := h
    have hu := hu_of hr
    have hu64 : (A.deeper (envOfC "_law_refused" (defScope s__law_refused) s.heap.objs.size f cdv)).units + 64 < cLine := by have := hr.un; omega
    have gd : (A.deeper (envOfC "_law_refused" (defScope s__law_refused) s.heap.objs.size f cdv)).guards = some [] := gd0
    have nd := sc__law_refused.nd
    refine ⟨_, (pss_cons (ps_try_as (i := 1) rfl rfl nd rfl rfl ⟨rfl, by decide, .inl mB⟩ takes0 (fun W pn xe tk _ => (pss_one (ps_expr (pe_ccX x_checksum hr (by omega) (by rfl) (fun σ => passAt tk σ) (pa_cons (pv 0) pa_nil)))))
      (fun a oe cls d pn hz hf => (pss_cons (ps_set (i := 2) nd rfl (Or.inl rfl) (pe_and (pe_callB (call_isE K hz hf) (by rfl) (by assumption) (by decide +kernel) (pa_cons (pv 1) (pa_cons (pe_bltn (v := .ty "TypeError") (by rfl) (by assumption) (by decide +kernel) rfl) pa_nil))) (pe_one (pe_not (pe_callB (call_isEt K hz hf) (by rfl) (by assumption) (by decide +kernel) (pa_cons (pv 1) (pa_cons (pe_tup (pa_cons (pe_glob (v := .ref cB) (by rfl) mNb (by first | exact rfl | exact ⟨_, rfl⟩)) (pa_cons (pe_glob (v := .ref cD) (by rfl) mNd (by first | exact rfl | exact ⟨_, rfl⟩)) (pa_cons (pe_glob (v := .ref cM) (by rfl) mNm (by first | exact rfl | exact ⟨_, rfl⟩)) pa_nil)))) pa_nil)))))))
      (pss_one (ps_ret (pe_and (pv 2) (pe_one (pe_cmpR op_eq (pe_callB (call_reprX K gd hu64) (by rfl) (by assumption) (by decide +kernel) (pa_cons (pe_suF K hz hf (pv 1)) pa_nil)) (pe_callB (call_reprX K gd hu64) (by rfl) (by assumption) (by decide +kernel) (pa_cons (pv 0) pa_nil)) (nomark _)))))))))
      (pss_one (ps_ret pe_bl))), ?_⟩
    walk_at "rd"
    show tCons (tVar 0) tNil _ _ _
    walk_at "rd"
    refine ⟨x, rfl, hx, fun y dx H1 e1 h1 hc => ?_⟩
    refine ⟨true, ex, fun _ a ha => ?_, fun z => Bool.noConfusion z⟩
    walk_at "rd"
    refine ⟨C, fI, dx, T, rfl, rfl, .ty "TypeError", .type "TypeError", true, _, rfl, h1, .ty _, kT, ?_⟩
    walk_at "rd"
    rename_i tp htp
    refine ⟨C, fI, dx, tp, _, _, false, _, T, rfl, rfl, rfl, upd_old htp h1, upd_same, .cons (.own _) (.cons (.own _) (.cons (.own _) .nil)), kN, ?_⟩
    have h2 := upd_old (o := .tup [V.ref cB, V.ref cD, V.ref cM]) htp h1
    have hc2 : Cp x y (upd H1 tp (.tup [V.ref cB, V.ref cD, V.ref cM])) := hc.mapH fun p xs h => upd_old htp h
    have e2 : Same H (upd H1 tp (.tup [V.ref cB, V.ref cD, V.ref cM])) := same_upd e1 htp
    generalize upd H1 tp (.tup [V.ref cB, V.ref cD, V.ref cM]) = H2 at *
    walk_at "rd"
    show tVar 1 _ _ _
    walk_at "rd"
    refine ⟨C, fI, dx, _, y, T, hno, rfl, rfl, rfl, h2, rfl, ?_⟩
    have fin : ∀ z : Str, rEq (.str z) (.str z) H2 Q := fun z => r_eq rfl (by rw [decide_eq_true rfl]; exact q _ e2)
    rcases hc2 with ⟨rfl, h⟩ | ⟨p, p', xs, rfl, rfl, hp, hp', hl, hv⟩
    · rcases h with rfl | rfl | ⟨z, rfl, hz, hzl⟩ | ⟨xs, rfl, hl⟩
      · walk_at "rd"
        refine .inl ⟨rfl, ?_⟩
        walk_at "rd"
        refine .inl ⟨rfl, ?_⟩
        exact fin _
      · walk_at "rd"
        refine .inr (.inl ⟨512, rfl, by decide, ?_⟩)
        walk_at "rd"
        refine .inr (.inl ⟨512, rfl, by decide, ?_⟩)
        exact fin _
      · walk_at "rd"
        refine .inr (.inr (.inl ⟨z, rfl, asc_repr hz hzl, ?_⟩))
        walk_at "rd"
        refine .inr (.inr (.inl ⟨z, rfl, asc_repr hz hzl, ?_⟩))
        exact fin _
      · have hsz : (Bt.byOf xs).size ≤ 5000 := by rw [byOf_size]; omega
        walk_at "rd"
        refine .inr (.inr (.inr (.inl ⟨_, rfl, hsz, ?_⟩)))
        walk_at "rd"
        refine .inr (.inr (.inr (.inl ⟨_, rfl, hsz, ?_⟩)))
        exact fin _
    · walk_at "rd"
      refine r_reprN hp' hl hv ?_
      walk_at "rd"
      refine r_reprN hp hl hv ?_
      exact fin _
end
end Th
namespace Th
open PySem PySem.Spec PyProof.Rows L2
local macro_rules | `(tactic| walk_at "lk") => `(tactic| first
  | assumption
  | exact upd_same
  | (refine upd_old (by assumption) ?_; walk_at "lk")
  | (refine upd_diff (by assumption) ?_; walk_at "lk")
  | (refine upd_diff (Ne.symm (by assumption)) ?_; walk_at "lk"))
local macro_rules | `(tactic| walk_at "cnd") => `(tactic| first
  | omega
  | (refine ⟨by omega, by omega⟩)
  | (refine ⟨by omega, by omega, by omega⟩)
  | (refine .inl ⟨by omega, by omega⟩)
  | (refine .inr ⟨by omega, by omega⟩)
  | (exact (show CPow _ _ from ⟨by decide, by decide, by omega⟩))
  | decide +kernel
  | (unfold CMulW; decide +kernel)
  | (exact wide_div (b := 64) (by omega) (by omega) (by decide) (by decide)))
local macro_rules | `(tactic| walk_at "rd1") => `(tactic| first
  | (with_reducible refine r_seq ?_)
  | (with_reducible refine r_asg ?_)
  | (with_reducible refine r_ret ?_)
  | (with_reducible refine r_if ?_)
  | (with_reducible refine r_gname ?_)
  | ((with_reducible refine' r_var ?hv ?_); (case hv => exact rfl))
  | (with_reducible refine r_c ?_)
  | (with_reducible refine r_op ?_)
  | (with_reducible refine r_I0 ?_)
  | ((with_reducible refine r_I ?hc ?_); (case hc => walk_at "cnd"))
  | (with_reducible refine r_test ?_)
  | (with_reducible refine r_tB ?_)
  | (with_reducible refine r_bl ?_)
  | (with_reducible refine r_not ?_)
  | (with_reducible refine r_and ?_)
  | (with_reducible refine r_or ?_)
  | (with_reducible refine r_ifE ?_)
  | (with_reducible refine r_notV ?_)
  | (with_reducible refine r_andV ?_)
  | (with_reducible refine r_orV ?_)
  | (with_reducible refine r_chain ?_)
  | (with_reducible refine r_cb ?_)
  | (with_reducible refine r_call ?_)
  | (with_reducible refine r_callN ?_)
  | (with_reducible refine r_nil ?_)
  | (with_reducible refine r_cons ?_)
  | ((with_reducible refine r_lst ?_))
  | ((with_reducible refine r_tup ?_))
  | ((with_reducible refine r_new ?_ ?_); (exact Nat.le_of_ble_eq_true rfl); (intro p hp))
  | (with_reducible refine r_rInt1 ?_)
  | (with_reducible refine r_rIntB ?_)
  | (with_reducible refine r_rAbs ?_)
  | (with_reducible refine r_rMin2 ?_)
  | (with_reducible refine r_rMax2 ?_)
  | ((with_reducible refine r_rLenZ ?hz ?_); (case hz => first | assumption | exact Nat.le_of_ble_eq_true rfl | (refine Nat.le_trans ?_ (by decide : 100000 ≤ sizeLine); omega)))
  | ((with_reducible refine r_addZ ?hz ?_); (case hz => (refine Nat.le_trans ?_ (by decide : 100000 ≤ sizeLine); first | omega | (simp only [Str.length] at *; simp; omega))))
  | ((with_reducible refine r_mulZ ?hz ?h0 ?h1 ?_); (case hz => first | omega | exact Nat.le_of_ble_eq_true rfl); (case h0 => omega); (case h1 => omega))
  | ((with_reducible refine' r_rLenQ ?h1 ?_); (case h1 => first | (exact .inl (by assumption)) | (exact .inr (by assumption)) | (exact .inl (SqL.of (by walk_at "lk"))) | (exact .inr (SqT.of (by walk_at "lk")))))
  | ((with_reducible refine r_eq ?hs ?_); (case hs => exact rfl))
  | ((with_reducible refine r_ne ?hs ?_); (case hs => exact rfl))
  | (with_reducible refine r_inC ?_)
  | ((with_reducible refine' r_cat ?h1 ?h2 ?h3 ?_); (case h1 => walk_at "lk"); (case h2 => walk_at "lk"); (case h3 => exact Nat.le_of_ble_eq_true rfl); (intro p hp))
  | ((with_reducible refine' r_rep ?h1 ?h2 ?h3 ?h4 ?_); (case h1 => walk_at "lk"); (case h2 => omega); (case h3 => omega); (case h4 => exact Nat.le_of_ble_eq_true rfl); (intro p hp))
  | ((with_reducible refine' r_append ?h1 ?h2 ?_); (case h1 => walk_at "lk"); (case h2 => first | exact (show _ + 1 ≤ sizeLine from Nat.le_of_ble_eq_true rfl) | exact Nat.lt_of_le_of_lt (by omega : _ ≤ 100000) (by decide)))
  | (with_reducible refine r_bm ?_)
  | ((with_reducible refine' r_tyL ?h1 ?_); (case h1 => walk_at "lk"))
  | ((with_reducible refine' r_ixL ?h1 ?h2 ?_); (case h1 => first | assumption | exact SqL.of (by walk_at "lk")); (case h2 => exact rfl))
  | ((with_reducible refine' r_ixT ?h1 ?h2 ?_); (case h1 => first | assumption | exact SqT.of (by walk_at "lk")); (case h2 => exact rfl))
  | (with_reducible refine r_gsub ?_)
  | ((with_reducible refine' r_setL ?h1 ?h2 ?_); (case h1 => walk_at "lk"); (case h2 => exact rfl))
  | (with_reducible refine r_un ?_)
  | (with_reducible refine r_neg ?_)
  | (with_reducible refine r_iteT ?_)
  | (with_reducible refine r_iteNT ?_)
  | (with_reducible refine r_iteNF ?_)
  | (with_reducible refine r_iteF ?_)
  | (with_reducible refine r_next ?_)
  | (with_reducible refine r_drop ?_)
  | (with_reducible refine r_cont ?_)
  | (with_reducible refine r_brk ?_))
local macro_rules | `(tactic| walk_at "ty") => `(tactic| first
  | assumption
  | exact .base (.int _)
  | exact .base (.str _)
  | exact .base (.bl _)
  | exact .base .non
  | exact .byt _
  | exact .base (.lst (by walk_at "lk"))
  | exact .base (.tup (by walk_at "lk")))
local macro_rules | `(tactic| walk_at "rd2") => `(tactic| first
  | walk_at "rd1"
  | ((with_reducible refine' r_isi true ?ht ?hk ?_); (case ht => walk_at "ty"); (case hk => first | assumption | decide +kernel))
  | ((with_reducible refine' r_isi false ?ht ?hk ?_); (case ht => walk_at "ty"); (case hk => first | assumption | decide +kernel))
  | ((with_reducible refine' r_isiT2 true true ?hT ?ht ?hk ?hk2 ?_); (case hT => walk_at "lk"); (case ht => walk_at "ty"); (case hk => decide +kernel); (case hk2 => decide +kernel))
  | ((with_reducible refine' r_isiT2 true false ?hT ?ht ?hk ?hk2 ?_); (case hT => walk_at "lk"); (case ht => walk_at "ty"); (case hk => decide +kernel); (case hk2 => decide +kernel))
  | ((with_reducible refine' r_isiT2 false true ?hT ?ht ?hk ?hk2 ?_); (case hT => walk_at "lk"); (case ht => walk_at "ty"); (case hk => decide +kernel); (case hk2 => decide +kernel))
  | ((with_reducible refine' r_isiT2 false false ?hT ?ht ?hk ?hk2 ?_); (case hT => walk_at "lk"); (case ht => walk_at "ty"); (case hk => decide +kernel); (case hk2 => decide +kernel))
  | (with_reducible refine r_iteNT ?_)
  | ((show (if (!true) = true then _ else _)); refine r_iteNT ?_)
  | (with_reducible refine r_r1 ?_)
  | (with_reducible refine r_maks ?_)
  | (with_reducible refine r_sfld ?_)
  | ((with_reducible refine' r_sfldE ?h1 ?h2 ?h3 ?h4 ?_); (case h1 => walk_at "lk"); (case h2 => assumption); (case h3 => assumption); (case h4 => exact (show _ + 1 ≤ 1000 from Nat.le_of_ble_eq_true rfl)))
  | (with_reducible refine r_fld ?_)
  | (with_reducible refine r_join ?_)
  | (with_reducible refine r_jcons ?_)
  | (with_reducible refine r_jnil ?_)
  | ((with_reducible refine r_rLenY ?hz ?_); (case hz => first | assumption | (refine Nat.le_trans ?_ (by decide : 100000 ≤ sizeLine); omega)))
  | (with_reducible refine r_par ?_)
  | (with_reducible refine r_pair ?_)
  | (with_reducible refine r_par3 ?_)
  | (with_reducible refine r_trip ?_)
  | ((with_reducible refine' r_gtup ?h1 ?h2 ?_); (case h1 => first | assumption | exact SqT.of (by walk_at "lk")); (case h2 => exact rfl))
  | (with_reducible refine r_gcons ?_)
  | (with_reducible refine r_gnil ?_)
  | ((with_reducible refine' r_slL ?h1 ?_); (case h1 => first | assumption | exact SqL.of (by walk_at "lk")); (intro p hp))
  | (with_reducible refine r_iTup ?_)
  | ((with_reducible refine' r_tupE ?h1 ?_); (case h1 => first | assumption | exact SqT.of (by walk_at "lk")))
  | (with_reducible refine r_m1 ?_)
  | (with_reducible refine r_isZ ?_)
  | (with_reducible refine r_sl ?_)
  | (with_reducible refine r_noPart ?_)
  | (with_reducible refine r_part ?_)
  | (with_reducible refine r_partE ?_)
  | ((with_reducible refine r_slS ?hz ?_); (case hz => first | assumption | (refine Nat.le_trans ?_ (by decide : 100000 ≤ sizeLine); omega)))
  | ((with_reducible refine' r_inT ?h1 ?h2 ?h3 ?_); (case h1 => first | assumption | (exact SqT.of (by walk_at "lk"))); (case h2 => exact rfl); (case h3 => exact rfl))
  | ((with_reducible refine' r_inL ?h1 ?h2 ?h3 ?_); (case h1 => first | assumption | (exact SqL.of (by walk_at "lk"))); (case h2 => exact rfl); (case h3 => exact rfl))
  | (with_reducible refine r_lc ?_)
  | (with_reducible refine r_for ?_)
  | (with_reducible refine r_iStr ?_)
  | (with_reducible refine r_strE ?_)
  | (with_reducible refine r_iList ?_)
  | ((with_reducible refine' r_listE ?h1 ?_); (case h1 => first | assumption | exact SqL.of (by walk_at "lk")))
  | (with_reducible refine r_iRng1 ?_)
  | ((with_reducible refine' r_rngE ?h0 ?h1 ?_); (case h0 => first | omega | (split <;> omega)); (case h1 => first | omega | (split <;> omega))))
local macro_rules | `(tactic| walk_at "rd") => `(tactic| (repeat walk_at "rd2"))
local macro_rules | `(tactic| walk_at "st") => `(tactic| (repeat (first
  | (with_reducible refine r_gname ?_)
  | (with_reducible refine r_next ?_)
  | (with_reducible refine r_seq ?_)
  | (with_reducible refine r_asg ?_)
  | (with_reducible refine r_ret ?_)
  | (with_reducible refine r_for ?_)
  | (with_reducible refine r_iRng1 ?_)
  | (with_reducible refine r_iList ?_)
  | (with_reducible refine r_cons ?_)
  | (with_reducible refine r_par ?_)
  | (with_reducible refine r_par3 ?_))))
def hkF {α : Type} (ws mv : List α) : List α := match ws, mv with
  | [t, n, k], [a, b, c] => [k, n, a, b, c, t]
  | _, _ => []
section
variable {P : Program} {w : World} {K : PySem.W.Frag} {mg : Str → Option Value} {base : Heap}
theorem ok_law {f : Addr} {fd : FuncData} (F : Fun K "law" "law" s_law f fd) (m1 : mg "range" = none) (m2 : mg "max" = none) (m3 : mg "min" = none) (m4 : mg "len" = none) (m5 : mg "list" = none)
    (c_source : CalT P w K mg base 2 "_law_source" (spSource K)) (c_draw : CalT P w K mg base 2 "_law_draw" spDraw) (c_aname : CalT P w K mg base 4 "_law_any_name" spAName) (c_head : CalT P w K mg base 3 "_law_head" (spHead K)) (c_total : CalT P w K mg base 2 "_law_total" spTotal)
    (c_blob : CalT P w K mg base 4 "blob" spBlob) (c_checksum : CalT P w K mg base 2 "checksum" spCheck) (c_checksum_k : CalK P w K mg base 2 "checksum" ["block"] spCheck) (g_refused : CalG P w K mg base 6 "_law_refused" (spRefused Odd))
    (c_header_k2 : CalN P w K mg base 4 "header" 2 ["mode", "size", "time", "target"] (fun us ws => us ++ ws) spHeader)
    (c_header_k : CalN P w K mg base 4 "header" 0 ["target", "name", "kind"] (fun _ ws => hkF ws [.int 0, .int 0, .int 0]) spHeader)
    (c_headerD : CalD P w K mg base 4 "header" [.int 0, .int 0, .int 0, .str ""] spHeader) : FnG P w K mg base 7 f fd ["_law_script"] (spLaw K) := by
  refine Fun.okG (k := 6) F sc_law (fun vs H Q E h => ?_) (fun cdv A outer s H vs Q E hr gd0 h => ?_)
  · obtain ⟨a, ns, rfl, _⟩ := h
    rfl
  · obtain ⟨a, ns, rfl, hS, hz, q⟩ := h
    have hu := hu_of hr
    have hu64 : (A.deeper (envOfC "law" (defScope s_law) s.heap.objs.size f cdv)).units + 64 < cLine := by have := hr.un; omega
    have gd : (A.deeper (envOfC "law" (defScope s_law) s.heap.objs.size f cdv)).guards = some [] := gd0
    have nd := sc_law.nd
    refine ⟨_, (pss_cons (ps_for PassesOwn.never rfl (pi_range1 (by rfl) (by assumption) (pa_cons (pe_callB call_rMax2 (by rfl) (by assumption) (by decide +kernel) (pa_cons pe_int (pa_cons (pe_callB call_rMin2 (by rfl) (by assumption) (by decide +kernel) (pa_cons pe_int (pa_cons (pe_callB (call_lenK K) (by rfl) (by assumption) (by decide +kernel) (pa_cons (pv 0) pa_nil)) pa_nil))) pa_nil))) pa_nil)) (pg_name (i := 1) nd rfl (Or.inl rfl))
        (pss_cons (ps_set (i := 2) nd rfl (Or.inl rfl) (pe_cc c_source hr (by omega) (by rfl) (pa_cons (pv 0) (pa_cons (pv 1) pa_nil))))
      (pss_one (ps_for PassesOwn.never rfl (pi_range1 (by rfl) (by assumption) (pa_cons pe_int pa_nil)) (pg_name (i := 3) nd rfl (Or.inl rfl))
        (pss_cons (ps_set (i := 4) nd rfl (Or.inl rfl) (pe_ix ix_str pe_str (pe_cc c_draw hr (by omega) (by rfl) (pa_cons (pv 2) (pa_cons pe_int pa_nil))) (fun _ _ => rfl)))
      (pss_cons (ps_set (i := 5) nd rfl (Or.inl rfl) (pe_lst (pa_cons pe_str (pa_cons pe_str (pa_cons (pe_slice sl_str (pe_cc c_aname hr (by omega) (by rfl) (pa_cons (pv 2) pa_nil)) po_none (po_some pe_int)) (pa_cons (pe_slice sl_str (pe_cc c_aname hr (by omega) (by rfl) (pa_cons (pv 2) pa_nil)) po_none (po_some pe_int)) pa_nil))))))
      (pss_cons (ps_set (i := 6) nd rfl (Or.inl rfl) (pe_ix (ix_listK K) (pv 5) (pe_cc c_draw hr (by omega) (by rfl) (pa_cons (pv 2) (pa_cons pe_int pa_nil))) (fun _ _ => rfl)))
      (pss_cons (ps_set (i := 7) nd rfl (Or.inl rfl) (pe_ix (ix_listK K) (pe_lst (pa_cons (pe_ix (ix_listK K) (pv 5) pe_int (fun _ _ => rfl)) (pa_cons (pe_ix (ix_listK K) (pv 5) pe_int (fun _ _ => rfl)) pa_nil))) (pe_cc c_draw hr (by omega) (by rfl) (pa_cons (pv 2) (pa_cons pe_int pa_nil))) (fun _ _ => rfl)))
      (pss_cons (ps_set (i := 8) nd rfl (Or.inl rfl) (pe_lst (pa_cons (pe_ix (ix_listK K) (pe_lst (pa_cons pe_int (pa_cons pe_int (pa_cons pe_int (pa_cons (pe_op op_sub (pe_op op_pow pe_int pe_int) pe_int) pa_nil))))) (pe_cc c_draw hr (by omega) (by rfl) (pa_cons (pv 2) (pa_cons pe_int pa_nil))) (fun _ _ => rfl)) (pa_cons (pe_cc c_draw hr (by omega) (by rfl) (pa_cons (pv 2) (pa_cons (pe_op op_pow pe_int pe_int) pa_nil))) (pa_cons (pe_op op_sub (pe_op op_pow pe_int pe_int) pe_int) pa_nil)))))
      (pss_cons (ps_asg (pe_ix (ix_listK K) (pe_lst (pa_cons pe_int (pa_cons (pe_op op_sub (pe_op op_pow pe_int pe_int) pe_int) (pa_cons (pe_cc c_draw hr (by omega) (by rfl) (pa_cons (pv 2) (pa_cons (pe_op op_pow pe_int pe_int) pa_nil))) pa_nil)))) (pe_cc c_draw hr (by omega) (by rfl) (pa_cons (pv 2) (pa_cons pe_int pa_nil))) (fun _ _ => rfl)) (pg_sub (pv 8) pe_int set_list))
      (pss_cons (ps_set (i := 9) nd rfl (Or.inl rfl) (pe_cc c_head hr (by omega) (by rfl) (pa_cons (pv 4) (pa_cons (pv 6) (pa_cons (pv 8) (pa_cons (pv 7) pa_nil))))))
      (pss_cons (ps_set (i := 10) nd rfl (Or.inl rfl) (pe_ckN c_header_k2 hr (by omega) (by rfl) (pa_cons (pv 4) (pa_cons (pv 6) pa_nil)) (pk_cons (pe_ix (ix_listK K) (pv 8) pe_int (fun _ _ => rfl)) (pk_cons (pe_ix (ix_listK K) (pv 8) pe_int (fun _ _ => rfl)) (pk_cons (pe_ix (ix_listK K) (pv 8) pe_int (fun _ _ => rfl)) (pk_cons (pv 7) pk_nil))))))
      (pss_cons (ps_if (PW.pt (pw_or (pt_cmpR (op_neD hu64) (pe_callTy call_listBN (by rfl) (by assumption) (by decide +kernel) (pa_cons (pv 10) pa_nil)) (pv 9) (nomark _)) (pw_or1 (pt_cmpR (op_neD hu64) (pe_slice (sl_listK K) (pe_callTy call_listBN (by rfl) (by assumption) (by decide +kernel) (pa_cons (pe_ckN0 c_header_k hr (by omega) (by rfl) (pk_cons (pv 7) (pk_cons (pv 6) (pk_cons (pv 4) pk_nil)))) pa_nil)) po_none (po_some pe_int)) (pe_slice (sl_listK K) (pv 9) po_none (po_some pe_int)) (nomark _)))))
        (pss_one (ps_ret pe_bl))
        pss_nil)
      (pss_cons (ps_if (PW.pt (pw_or (pt_cmpR op_ne (pe_cc c_checksum hr (by omega) (by rfl) (pa_cons (pv 10) pa_nil)) (pe_cc c_total hr (by omega) (by rfl) (pa_cons (pv 9) pa_nil)) (nomark _)) (pw_or1 (pt_cmpR op_ne (pe_ck0 c_checksum_k hr (by omega) (by rfl) (pk_cons (pv 10) pk_nil)) (pe_cc c_checksum hr (by omega) (by rfl) (pa_cons (pv 10) pa_nil)) (nomark _)))))
        (pss_one (ps_ret pe_bl))
        pss_nil)
      (pss_cons (ps_set (i := 11) nd rfl (Or.inl rfl) (pe_cc c_draw hr (by omega) (by rfl) (pa_cons (pv 2) (pa_cons pe_int pa_nil))))
      (pss_cons (ps_set (i := 12) nd rfl (Or.inl rfl) (pe_op op_cat (pe_op op_cat (pe_slice (sl_listK K) (pv 9) po_none (po_some (pv 11))) (pe_lst (pa_cons (pe_cc c_draw hr (by omega) (by rfl) (pa_cons (pv 2) (pa_cons pe_int pa_nil))) pa_nil))) (pe_slice (sl_listK K) (pv 9) (po_some (pe_op op_add (pv 11) pe_int)) po_none)))
      (pss_cons (ps_if (pt_cmpR op_ne (pe_cc c_checksum hr (by omega) (by rfl) (pa_cons (pe_cc c_blob hr (by omega) (by rfl) (pa_cons (pv 12) pa_nil)) pa_nil)) (pe_cc c_total hr (by omega) (by rfl) (pa_cons (pv 12) pa_nil)) (nomark _))
        (pss_one (ps_ret pe_bl))
        pss_nil)
      (pss_cons (ps_set (i := 13) nd rfl (Or.inl rfl) (pe_ix (ix_listK K) (pe_lst (pa_cons pe_non (pa_cons (pv 9) (pa_cons (pe_op op_mulS pe_str pe_int) (pa_cons (pe_cc c_blob hr (by omega) (by rfl) (pa_cons (pe_slice (sl_listK K) (pv 9) po_none (po_some pe_int)) pa_nil)) (pa_cons (pe_cc c_blob hr (by omega) (by rfl) (pa_cons (pe_op op_cat (pv 9) (pe_lst (pa_cons pe_int pa_nil))) pa_nil)) (pa_cons (pe_cc c_blob hr (by omega) (by rfl) (pa_cons (pe_lst pa_nil) pa_nil)) (pa_cons pe_int pa_nil)))))))) (pe_cc c_draw hr (by omega) (by rfl) (pa_cons (pv 2) (pa_cons pe_int pa_nil))) (fun _ _ => rfl)))
      (pss_one (ps_if (pt_not (pt_val (pe_ccG g_refused gd hr (by omega) (by rfl) (pa_cons (pv 13) pa_nil))))
        (pss_one (ps_ret pe_bl))
        pss_nil))))))))))))))))))))
      (pss_cons (ps_set (i := 14) nd rfl (Or.inl rfl) (pe_ccD c_headerD hr (by omega) (by rfl) (pa_cons pe_str (pa_cons pe_str pa_nil))))
      (pss_one (ps_ret (pe_and (pe_cmpR (op_eqD hu64) (pe_callTy call_listBN (by rfl) (by assumption) (by decide +kernel) (pa_cons (pv 14) pa_nil)) (pe_cc c_head hr (by omega) (by rfl) (pa_cons pe_str (pa_cons pe_str (pa_cons (pe_tup (pa_cons pe_int (pa_cons pe_int (pa_cons pe_int pa_nil)))) (pa_cons pe_str pa_nil))))) (nomark _)) (pe_one (pe_cmpR op_eq (pe_cc c_checksum hr (by omega) (by rfl) (pa_cons (pe_cc c_blob hr (by omega) (by rfl) (pa_cons (pe_op op_rep (pe_lst (pa_cons pe_int pa_nil)) pe_int) pa_nil)) pa_nil)) (pe_op op_add (pe_op op_mulW pe_int pe_int) pe_int) (nomark _)))))))), ?_⟩
    have hml : (ns.map V.int).length = ns.length := List.length_map ..
    walk_at "rd"
    refine for_it (walk_range (lo := 0) (n := _)) (fun i σ H' => ∃ v1 v2 v3 v4 v5 v6 v7 v8 v9 v10 v11 v12 v13 v14 : Option V, σ = [some (.ref a), v1, v2, v3, v4, v5, v6, v7, v8, v9, v10, v11, v12, v13, v14] ∧ Same H H') ?_ (fun _ _ _ _ _ => True.intro) ?_ ?_
    · skip
      exact ⟨_, _, _, _, _, _, _, _, _, _, _, _, _, _, rfl, Same.refl _⟩
    · rintro i x σ Hc H' hi ⟨v1, v2, v3, v4, v5, v6, v7, v8, v9, v10, v11, v12, v13, v14, rfl, eH⟩ ⟨rfl, hx⟩
      simp only [Int.zero_add] at hx
      subst hx
      have hi4 : i ≤ 63 := by
        revert hi
        split
        · split <;> omega
        · omega
      walk_at "rd"
      refine sp_source (seq_same eH hS) hz hi4 (fun p H1 hp e1 hs1 => ?_)
      have hp0 : H p = none := none_same eH hp
      walk_at "rd"
      refine for_it (walk_range (lo := 0) (n := _)) (fun j σ H' => ∃ v3 v4 v5 v6 v7 v8 v9 v10 v11 v12 v13 v14 : Option V, σ = [some (.ref a), some (.int (i : Int)), some (.ref p), v3, v4, v5, v6, v7, v8, v9, v10, v11, v12, v13, v14] ∧ Src H' p ∧ Same H H') ?_ (fun _ _ _ _ _ => True.intro) ?_ ?_
      · exact ⟨_, _, _, _, _, _, _, _, _, _, _, _, rfl, hs1, same_trans eH e1⟩
      · rintro j x σ Hc H' hj ⟨v3, v4, v5, v6, v7, v8, v9, v10, v11, v12, v13, v14, rfl, hs1, eH1⟩ ⟨rfl, hx⟩
        subst hx
        walk_at "st"
        refine r_pickS rfl (by decide +kernel) (by decide) (by decide) hs1 (fun c H2 hc hs2 hb2 => ?_)
        walk_at "rd"
        refine sp_aname hs2 (fun z1 H3 hz1 hs3 hb3 => ?_)
        have t1 := tx_cut hz1
        have k1 : z1.length ≤ sizeLine := Nat.le_trans (of_name hz1).2.1 (by decide)
        walk_at "rd"
        generalize cutS z1 none (some 150) = y1 at *
        refine sp_aname hs3 (fun z2 H4 hz2 hs4 hb4 => ?_)
        have t2 := tx_cut hz2
        have k2 : z2.length ≤ sizeLine := Nat.le_trans (of_name hz2).2.1 (by decide)
        walk_at "rd"
        generalize cutS z2 none (some 150) = y2 at *
        rename_i g hg
        have eH4 := same_but eH1 hp0 ((hb2.trans hb3).trans hb4)
        have gp : g ≠ p := hs4.ne hg
        have hs5 := hs4.new (o := .lst [.str "", .str "././@LongLink", .str y1, .str y2]) hg
        have eH5 : Same H (upd H4 g (.lst [.str "", .str "././@LongLink", .str y1, .str y2])) := same_upd eH4 hg
        have hlk : (upd H4 g (.lst [.str "", .str "././@LongLink", .str y1, .str y2])) g = some (.lst [.str "", .str "././@LongLink", .str y1, .str y2]) := upd_same
        generalize upd H4 g (.lst [.str "", .str "././@LongLink", .str y1, .str y2]) = H5 at *
        refine sp_draw hs5 (by decide) (by decide) (fun d H6 d0 d1 hs6 hb6 => ?_)
        have hlk6 := hb6 g _ gp hlk
        obtain ⟨tv, htv, etv⟩ := pick_at (xs := [.str "", .str "././@LongLink", .str y1, .str y2]) d0 d1
        obtain ⟨tz, rfl, ttx⟩ := tx_four t1 t2 tv htv
        refine r_ixL (SqL.of hlk6) etv ?_
        walk_at "rd"
        rename_i g2 hg2
        have eH6 := same_but eH5 hp0 hb6
        have g2p : g2 ≠ p := hs6.ne hg2
        have hs7 := hs6.new (o := .lst [.str "", .str y2]) hg2
        have eH7 : Same H (upd H6 g2 (.lst [.str "", .str y2])) := same_upd eH6 hg2
        have hlk7 : (upd H6 g2 (.lst [.str "", .str y2])) g2 = some (.lst [.str "", .str y2]) := upd_same
        generalize upd H6 g2 (.lst [.str "", .str y2]) = H7 at *
        refine sp_draw hs7 (by decide) (by decide) (fun d' H8 d0' d1' hs8 hb8 => ?_)
        have hlk8 := hb8 g2 _ g2p hlk7
        have eH8 := same_but eH7 hp0 hb8
        obtain ⟨av, hav, eav⟩ := pick_at (xs := [.str "", .str y2]) d0' d1'
        obtain ⟨az, rfl, atx⟩ := tx_four t2 t2 av (tx_two hav)
        refine r_ixL (SqL.of hlk8) eav ?_
        walk_at "rd"
        rename_i g3 hg3
        have g3p : g3 ≠ p := hs8.ne hg3
        have hs9 := hs8.new (o := .lst [.int 0, .int 511, .int 4095, .int (8 ^ Int.toNat 7 - 1)]) hg3
        have eH9 : Same H (upd H8 g3 (.lst [.int 0, .int 511, .int 4095, .int (8 ^ Int.toNat 7 - 1)])) := same_upd eH8 hg3
        have hlk9 : (upd H8 g3 (.lst [.int 0, .int 511, .int 4095, .int (8 ^ Int.toNat 7 - 1)])) g3 = some (.lst [.int 0, .int 511, .int 4095, .int (8 ^ Int.toNat 7 - 1)]) := upd_same
        generalize upd H8 g3 (.lst [.int 0, .int 511, .int 4095, .int (8 ^ Int.toNat 7 - 1)]) = H9 at *
        refine sp_draw hs9 (by decide) (by decide) (fun d3 H10 d30 d31 hs10 hb10 => ?_)
        have eH10 := same_but eH9 hp0 hb10
        obtain ⟨mv, hmv, emv⟩ := pick_at (xs := [.int 0, .int 511, .int 4095, .int (8 ^ Int.toNat 7 - 1)]) d30 d31
        obtain ⟨m, rfl, hm⟩ := mode_four mv hmv
        refine r_ixL (SqL.of (hb10 g3 _ g3p hlk9)) emv ?_
        walk_at "rd"
        refine sp_draw hs10 (by decide) (by decide) (fun sz H11 sz0 sz1 hs11 hb11 => ?_)
        have eH11 := same_but eH10 hp0 hb11
        obtain ⟨sn, rfl⟩ := Int.eq_ofNat_of_zero_le sz0
        have hsn : sn < 8 ^ 11 := by
          have : (8 : Int) ^ Int.toNat 11 = 8589934592 := by decide
          omega
        walk_at "rd"
        rename_i g4 hg4
        have g4p : g4 ≠ p := hs11.ne hg4
        have hs12 := hs11.new (o := .lst [.int (m : Int), .int (sn : Int), .int (8 ^ Int.toNat 11 - 1)]) hg4
        have eH12 : Same H (upd H11 g4 (.lst [.int (m : Int), .int (sn : Int), .int (8 ^ Int.toNat 11 - 1)])) := same_upd eH11 hg4
        have n4 : H g4 = none := none_same eH11 hg4
        have hlk12 : (upd H11 g4 (.lst [.int (m : Int), .int (sn : Int), .int (8 ^ Int.toNat 11 - 1)])) g4 = some (.lst [.int (m : Int), .int (sn : Int), .int (8 ^ Int.toNat 11 - 1)]) := upd_same
        generalize upd H11 g4 (.lst [.int (m : Int), .int (sn : Int), .int (8 ^ Int.toNat 11 - 1)]) = H12 at *
        refine sp_draw hs12 (by decide) (by decide) (fun ti H13 ti0 ti1 hs13 hb13 => ?_)
        have eH13 := same_but eH12 hp0 hb13
        have hlk13 := hb13 g4 _ g4p hlk12
        walk_at "rd"
        rename_i g5 hg5
        have g5p : g5 ≠ p := hs13.ne hg5
        have g45 : g4 ≠ g5 := ne_of_none hlk13 hg5
        have hs14 := hs13.new (o := .lst [.int 0, .int (8 ^ Int.toNat 11 - 1), .int ti]) hg5
        have eH14 : Same H (upd H13 g5 (.lst [.int 0, .int (8 ^ Int.toNat 11 - 1), .int ti])) := same_upd eH13 hg5
        have hlk14 : (upd H13 g5 (.lst [.int 0, .int (8 ^ Int.toNat 11 - 1), .int ti])) g5 = some (.lst [.int 0, .int (8 ^ Int.toNat 11 - 1), .int ti]) := upd_same
        have hl4 : (upd H13 g5 (.lst [.int 0, .int (8 ^ Int.toNat 11 - 1), .int ti])) g4 = _ := upd_old hg5 hlk13
        generalize upd H13 g5 (.lst [.int 0, .int (8 ^ Int.toNat 11 - 1), .int ti]) = H14 at *
        refine sp_draw hs14 (by decide) (by decide) (fun d5 H15 d50 d51 hs15 hb15 => ?_)
        have eH15 := same_but eH14 hp0 hb15
        obtain ⟨tv5, htv5, etv5⟩ := pick_at (xs := [.int 0, .int (8 ^ Int.toNat 11 - 1), .int ti]) d50 d51
        obtain ⟨tn, rfl, htn⟩ := time_three ti0 ti1 tv5 htv5
        refine r_ixL (SqL.of (hb15 g5 _ g5p hlk14)) etv5 ?_
        walk_at "rd"
        refine r_setL (hb15 g4 _ g4p hl4) rfl ?_
        walk_at "rd"
        have hs16 : Src (upd H15 g4 (.lst ([V.int (m : Int), V.int (sn : Int), V.int (8 ^ Int.toNat 11 - 1)].set (Int.toNat 2) (V.int (tn : Int))))) p := src_set g4p hs15
        have eH16 : Same H (upd H15 g4 (.lst ([V.int (m : Int), V.int (sn : Int), V.int (8 ^ Int.toNat 11 - 1)].set (Int.toNat 2) (V.int (tn : Int))))) := same_set eH15 n4
        have hn16 : (upd H15 g4 (.lst ([V.int (m : Int), V.int (sn : Int), V.int (8 ^ Int.toNat 11 - 1)].set (Int.toNat 2) (V.int (tn : Int))))) g4 = some (.lst [V.int (m : Int), V.int (sn : Int), V.int (tn : Int)]) := by rw [upd_same]; rfl
        generalize upd H15 g4 (.lst ([V.int (m : Int), V.int (sn : Int), V.int (8 ^ Int.toNat 11 - 1)].set (Int.toNat 2) (V.int (tn : Int)))) = H16 at *
        have hcl : Str.length (⟨#[c]⟩ : Str) = 1 := rfl
        have hca : PySem.W.KSb.Asc ⟨#[c]⟩ := asc_letter hc
        refine ⟨⟨#[c]⟩, tz, az, g4, m, sn, tn, rfl, .inl (SqL.of hn16), hcl, by have := ttx.2; omega, by have := atx.2; omega, hca, ttx.1, atx.1, hm, hsn, htn, fun g6 H17 hg6 e17 l6 => ?_⟩
        have eH17 := same_trans eH16 e17
        have hs17 := hs16.same e17
        have hn17 := e17 _ _ hn16
        walk_at "rd"
        have hcl' : (⟨#[c]⟩ : Str).cps.toList.length = 1 := rfl
        have hlen := HD_len (l := ⟨#[c]⟩) (z := tz) (a := az) hcl' hca ttx.1 atx.1 hm hsn htn
        have hlt := HD_lt (l := ⟨#[c]⟩) (z := tz) (a := az) (m := m) (s := sn) (t := tn) hca ttx.1 atx.1
        refine ⟨rfl, rfl, ⟨#[c]⟩, tz, az, m, sn, tn, rfl, hcl, by have := ttx.2; omega, by have := atx.2; omega, hca, ttx.1, atx.1, hm, hsn, htn, fun H18 e18 => ?_⟩
        have eH18 := same_trans eH17 e18
        have hs18 := hs17.same e18
        have l18 := l6.same e18
        walk_at "rd"
        refine r_listB hlt (by rw [hlen]; decide) (fun g7 H19 hg7 e19 l7 => ?_)
        have eH19 := same_trans eH18 e19
        have hs19 := hs18.same e19
        have l19 := l18.same e19
        walk_at "rd"
        refine r_neN l7 l19 ?_
        walk_at "rd"
        refine ⟨rfl, rfl, ⟨#[c]⟩, tz, az, 0, 0, 0, rfl, hcl, by have := ttx.2; omega, by have := atx.2; omega, hca, ttx.1, atx.1, by decide, by decide, by decide, fun H20 e20 => ?_⟩
        have eH20 := same_trans eH19 e20
        have hs20 := hs19.same e20
        have l20 := l19.same e20
        have hlen0 := HD_len (l := ⟨#[c]⟩) (z := tz) (a := az) (m := 0) (s := 0) (t := 0) hcl' hca ttx.1 atx.1 (by decide) (by decide) (by decide)
        have hlt0 := HD_lt (l := ⟨#[c]⟩) (z := tz) (a := az) (m := 0) (s := 0) (t := 0) hca ttx.1 atx.1
        walk_at "rd"
        refine r_listB hlt0 (by rw [hlen0]; decide) (fun g8 H21 hg8 e21 l8 => ?_)
        have eH21 := same_trans eH20 e21
        have hs21 := hs20.same e21
        have l21 := l20.same e21
        walk_at "rd"
        rename_i pa hpa pb hpb
        have eh : (HD ⟨#[c]⟩ tz az 0 0 0).take 100 = fldT tz := HD_take
        have ei : (HD ⟨#[c]⟩ tz az m sn tn).take 100 = fldT tz := HD_take
        rw [cut100] at hpb
        rw [cut100, cut100]
        rw [eh] at hpb
        rw [eh, ei]
        refine r_neN (xs := fldT tz) (upd_old hpb upd_same) upd_same ?_
        refine ⟨false, rfl, ?_⟩
        rw [if_neg (by decide)]
        have eH22 := same_upd (o := .lst ((nL (fldT tz)).map V.int)) (same_upd (o := .lst ((nL (fldT tz)).map V.int)) eH21 hpa) hpb
        have hs22 := (hs21.new (o := .lst ((nL (fldT tz)).map V.int)) hpa).new (o := .lst ((nL (fldT tz)).map V.int)) hpb
        have l22 := upd_old (o := .lst ((nL (fldT tz)).map V.int)) hpb (upd_old (o := .lst ((nL (fldT tz)).map V.int)) hpa l21)
        refine (show tT K _ _ _ from tail hs22 l22 hlen hlt (fun w11 w12 w13 H' hs' b' => ?_))
        exact ⟨_, _, _, _, _, _, _, _, _, _, _, _, rfl, hs', same_but eH22 hp0 b'⟩
      · rintro σ Hc ⟨v3, v4, v5, v6, v7, v8, v9, v10, v11, v12, v13, v14, rfl, hs2, eH2⟩
        exact ⟨_, _, _, _, _, _, _, _, _, _, _, _, _, _, rfl, eH2⟩
    · rintro σ Hc ⟨v1, v2, v3, v4, v5, v6, v7, v8, v9, v10, v11, v12, v13, v14, rfl, eH⟩
      walk_at "rd"
      refine ⟨"0", "a", "", 0, 0, 0, rfl, by decide +kernel, by decide +kernel, by decide, (by show ∀ c ∈ _, _; decide +kernel), (by show ∀ c ∈ _, _; decide +kernel), (fun c hc => by cases hc), by decide, by decide, by decide, fun H2 e2 => ?_⟩
      have a0 : PySem.W.KSb.Asc "0" := by show ∀ c ∈ _, _; decide +kernel
      have a1 : PySem.W.KSb.Asc "a" := by show ∀ c ∈ _, _; decide +kernel
      have a2 : PySem.W.KSb.Asc "" := fun c hc => by cases hc
      have l0 : Str.length "0" = 1 := by decide +kernel
      have l0' : (Str.ofString "0").cps.toList.length = 1 := by decide +kernel
      have hlen := HD_len (l := "0") (z := "a") (a := "") (m := 0) (s := 0) (t := 0) l0' a0 a1 a2 (by decide) (by decide) (by decide)
      walk_at "rd"
      refine r_listB (HD_lt a0 a1 a2) (by rw [hlen]; decide) (fun g H3 hg e3 lg => ?_)
      walk_at "rd"
      rename_i tp htp
      refine ⟨"0", "a", "", tp, 0, 0, 0, rfl, .inr (SqT.of upd_same), l0, by decide +kernel, by decide, a0, a1, a2, by decide, by decide, by decide, fun g2 H4 hg2 e4 lg2 => ?_⟩
      refine r_eqN (e4 _ _ (upd_old htp lg)) lg2 ?_
      walk_at "rd"
      rename_i pa hpa pb hpb
      refine sp_blobN (xs := List.replicate 512 255) (by unfold LN; rw [upd_same]; simp [nL, List.map_replicate]) (by simp) (fun x hx => by rw [List.eq_of_mem_replicate hx]; decide) (fun H5 e5 => ?_)
      walk_at "rd"
      refine sp_check (xs := List.replicate 512 255) (by simp) (fun x hx => by rw [List.eq_of_mem_replicate hx]; decide) ?_
      walk_at "rd"
      rw [show CS (List.replicate 512 255) = 128776 by decide +kernel]
      rw [show decide (V.int ((128776 : Nat) : Int) = V.int (504 * 255 + 256)) = true from decide_eq_true rfl]
      exact q _
end
end Th
namespace Th
open PySem PySem.Spec PyProof.Rows L2
local macro_rules | `(tactic| walk_at "lk") => `(tactic| first
  | assumption
  | exact upd_same
  | (refine upd_old (by assumption) ?_; walk_at "lk")
  | (refine upd_diff (by assumption) ?_; walk_at "lk")
  | (refine upd_diff (Ne.symm (by assumption)) ?_; walk_at "lk"))
local macro_rules | `(tactic| walk_at "cnd") => `(tactic| first
  | omega
  | (refine ⟨by omega, by omega⟩)
  | (refine ⟨by omega, by omega, by omega⟩)
  | (refine .inl ⟨by omega, by omega⟩)
  | (refine .inr ⟨by omega, by omega⟩)
  | (exact (show CPow _ _ from ⟨by decide, by decide, by omega⟩))
  | decide +kernel
  | (unfold CMulW; decide +kernel)
  | (exact wide_div (b := 64) (by omega) (by omega) (by decide) (by decide)))
local macro_rules | `(tactic| walk_at "rd1") => `(tactic| first
  | (with_reducible refine r_seq ?_)
  | (with_reducible refine r_asg ?_)
  | (with_reducible refine r_ret ?_)
  | (with_reducible refine r_if ?_)
  | (with_reducible refine r_gname ?_)
  | ((with_reducible refine' r_var ?hv ?_); (case hv => exact rfl))
  | (with_reducible refine r_c ?_)
  | (with_reducible refine r_op ?_)
  | (with_reducible refine r_I0 ?_)
  | ((with_reducible refine r_I ?hc ?_); (case hc => walk_at "cnd"))
  | (with_reducible refine r_test ?_)
  | (with_reducible refine r_tB ?_)
  | (with_reducible refine r_bl ?_)
  | (with_reducible refine r_not ?_)
  | (with_reducible refine r_and ?_)
  | (with_reducible refine r_or ?_)
  | (with_reducible refine r_ifE ?_)
  | (with_reducible refine r_notV ?_)
  | (with_reducible refine r_andV ?_)
  | (with_reducible refine r_orV ?_)
  | (with_reducible refine r_chain ?_)
  | (with_reducible refine r_cb ?_)
  | (with_reducible refine r_call ?_)
  | (with_reducible refine r_callN ?_)
  | (with_reducible refine r_nil ?_)
  | (with_reducible refine r_cons ?_)
  | ((with_reducible refine r_lst ?_))
  | ((with_reducible refine r_tup ?_))
  | ((with_reducible refine r_new ?_ ?_); (exact Nat.le_of_ble_eq_true rfl); (intro p hp))
  | (with_reducible refine r_rInt1 ?_)
  | (with_reducible refine r_rIntB ?_)
  | (with_reducible refine r_rAbs ?_)
  | (with_reducible refine r_rMin2 ?_)
  | (with_reducible refine r_rMax2 ?_)
  | ((with_reducible refine r_rLenZ ?hz ?_); (case hz => first | assumption | exact Nat.le_of_ble_eq_true rfl | (refine Nat.le_trans ?_ (by decide : 100000 ≤ sizeLine); omega)))
  | ((with_reducible refine r_addZ ?hz ?_); (case hz => (refine Nat.le_trans ?_ (by decide : 100000 ≤ sizeLine); first | omega | (simp only [Str.length] at *; simp; omega))))
  | ((with_reducible refine r_mulZ ?hz ?h0 ?h1 ?_); (case hz => first | omega | exact Nat.le_of_ble_eq_true rfl); (case h0 => omega); (case h1 => omega))
  | ((with_reducible refine' r_rLenQ ?h1 ?_); (case h1 => first | (exact .inl (by assumption)) | (exact .inr (by assumption)) | (exact .inl (SqL.of (by walk_at "lk"))) | (exact .inr (SqT.of (by walk_at "lk")))))
  | ((with_reducible refine r_eq ?hs ?_); (case hs => exact rfl))
  | ((with_reducible refine r_ne ?hs ?_); (case hs => exact rfl))
  | (with_reducible refine r_inC ?_)
  | ((with_reducible refine' r_cat ?h1 ?h2 ?h3 ?_); (case h1 => walk_at "lk"); (case h2 => walk_at "lk"); (case h3 => exact Nat.le_of_ble_eq_true rfl); (intro p hp))
  | ((with_reducible refine' r_rep ?h1 ?h2 ?h3 ?h4 ?_); (case h1 => walk_at "lk"); (case h2 => omega); (case h3 => omega); (case h4 => exact Nat.le_of_ble_eq_true rfl); (intro p hp))
  | ((with_reducible refine' r_append ?h1 ?h2 ?_); (case h1 => walk_at "lk"); (case h2 => first | exact (show _ + 1 ≤ sizeLine from Nat.le_of_ble_eq_true rfl) | exact Nat.lt_of_le_of_lt (by omega : _ ≤ 100000) (by decide)))
  | (with_reducible refine r_bm ?_)
  | ((with_reducible refine' r_tyL ?h1 ?_); (case h1 => walk_at "lk"))
  | ((with_reducible refine' r_ixL ?h1 ?h2 ?_); (case h1 => first | assumption | exact SqL.of (by walk_at "lk")); (case h2 => exact rfl))
  | ((with_reducible refine' r_ixT ?h1 ?h2 ?_); (case h1 => first | assumption | exact SqT.of (by walk_at "lk")); (case h2 => exact rfl))
  | (with_reducible refine r_gsub ?_)
  | ((with_reducible refine' r_setL ?h1 ?h2 ?_); (case h1 => walk_at "lk"); (case h2 => exact rfl))
  | (with_reducible refine r_un ?_)
  | (with_reducible refine r_neg ?_)
  | (with_reducible refine r_iteT ?_)
  | (with_reducible refine r_iteNT ?_)
  | (with_reducible refine r_iteNF ?_)
  | (with_reducible refine r_iteF ?_)
  | (with_reducible refine r_next ?_)
  | (with_reducible refine r_drop ?_)
  | (with_reducible refine r_cont ?_)
  | (with_reducible refine r_brk ?_))
local macro_rules | `(tactic| walk_at "ty") => `(tactic| first
  | assumption
  | exact .base (.int _)
  | exact .base (.str _)
  | exact .base (.bl _)
  | exact .base .non
  | exact .byt _
  | exact .base (.lst (by walk_at "lk"))
  | exact .base (.tup (by walk_at "lk")))
local macro_rules | `(tactic| walk_at "rd2") => `(tactic| first
  | walk_at "rd1"
  | ((with_reducible refine' r_isi true ?ht ?hk ?_); (case ht => walk_at "ty"); (case hk => first | assumption | decide +kernel))
  | ((with_reducible refine' r_isi false ?ht ?hk ?_); (case ht => walk_at "ty"); (case hk => first | assumption | decide +kernel))
  | ((with_reducible refine' r_isiT2 true true ?hT ?ht ?hk ?hk2 ?_); (case hT => walk_at "lk"); (case ht => walk_at "ty"); (case hk => decide +kernel); (case hk2 => decide +kernel))
  | ((with_reducible refine' r_isiT2 true false ?hT ?ht ?hk ?hk2 ?_); (case hT => walk_at "lk"); (case ht => walk_at "ty"); (case hk => decide +kernel); (case hk2 => decide +kernel))
  | ((with_reducible refine' r_isiT2 false true ?hT ?ht ?hk ?hk2 ?_); (case hT => walk_at "lk"); (case ht => walk_at "ty"); (case hk => decide +kernel); (case hk2 => decide +kernel))
  | ((with_reducible refine' r_isiT2 false false ?hT ?ht ?hk ?hk2 ?_); (case hT => walk_at "lk"); (case ht => walk_at "ty"); (case hk => decide +kernel); (case hk2 => decide +kernel))
  | (with_reducible refine r_iteNT ?_)
  | ((show (if (!true) = true then _ else _)); refine r_iteNT ?_)
  | (with_reducible refine r_r1 ?_)
  | (with_reducible refine r_maks ?_)
  | (with_reducible refine r_sfld ?_)
  | ((with_reducible refine' r_sfldE ?h1 ?h2 ?h3 ?h4 ?_); (case h1 => walk_at "lk"); (case h2 => assumption); (case h3 => assumption); (case h4 => exact (show _ + 1 ≤ 1000 from Nat.le_of_ble_eq_true rfl)))
  | (with_reducible refine r_fld ?_)
  | (with_reducible refine r_join ?_)
  | (with_reducible refine r_jcons ?_)
  | (with_reducible refine r_jnil ?_)
  | ((with_reducible refine r_rLenY ?hz ?_); (case hz => first | assumption | (refine Nat.le_trans ?_ (by decide : 100000 ≤ sizeLine); omega)))
  | (with_reducible refine r_par ?_)
  | (with_reducible refine r_pair ?_)
  | (with_reducible refine r_par3 ?_)
  | (with_reducible refine r_trip ?_)
  | ((with_reducible refine' r_gtup ?h1 ?h2 ?_); (case h1 => first | assumption | exact SqT.of (by walk_at "lk")); (case h2 => exact rfl))
  | (with_reducible refine r_gcons ?_)
  | (with_reducible refine r_gnil ?_)
  | ((with_reducible refine' r_slL ?h1 ?_); (case h1 => first | assumption | exact SqL.of (by walk_at "lk")); (intro p hp))
  | (with_reducible refine r_iTup ?_)
  | ((with_reducible refine' r_tupE ?h1 ?_); (case h1 => first | assumption | exact SqT.of (by walk_at "lk")))
  | (with_reducible refine r_m1 ?_)
  | (with_reducible refine r_isZ ?_)
  | (with_reducible refine r_sl ?_)
  | (with_reducible refine r_noPart ?_)
  | (with_reducible refine r_part ?_)
  | (with_reducible refine r_partE ?_)
  | ((with_reducible refine r_slS ?hz ?_); (case hz => first | assumption | (refine Nat.le_trans ?_ (by decide : 100000 ≤ sizeLine); omega)))
  | ((with_reducible refine' r_inT ?h1 ?h2 ?h3 ?_); (case h1 => first | assumption | (exact SqT.of (by walk_at "lk"))); (case h2 => exact rfl); (case h3 => exact rfl))
  | ((with_reducible refine' r_inL ?h1 ?h2 ?h3 ?_); (case h1 => first | assumption | (exact SqL.of (by walk_at "lk"))); (case h2 => exact rfl); (case h3 => exact rfl))
  | (with_reducible refine r_lc ?_)
  | (with_reducible refine r_for ?_)
  | (with_reducible refine r_iStr ?_)
  | (with_reducible refine r_strE ?_)
  | (with_reducible refine r_iList ?_)
  | ((with_reducible refine' r_listE ?h1 ?_); (case h1 => first | assumption | exact SqL.of (by walk_at "lk")))
  | (with_reducible refine r_iRng1 ?_)
  | ((with_reducible refine' r_rngE ?h0 ?h1 ?_); (case h0 => first | omega | (split <;> omega)); (case h1 => first | omega | (split <;> omega))))
local macro_rules | `(tactic| walk_at "rd") => `(tactic| (repeat walk_at "rd2"))
local macro_rules | `(tactic| walk_at "st") => `(tactic| (repeat (first
  | (with_reducible refine r_gname ?_)
  | (with_reducible refine r_next ?_)
  | (with_reducible refine r_seq ?_)
  | (with_reducible refine r_asg ?_)
  | (with_reducible refine r_ret ?_)
  | (with_reducible refine r_for ?_)
  | (with_reducible refine r_iRng1 ?_)
  | (with_reducible refine r_iList ?_)
  | (with_reducible refine r_cons ?_)
  | (with_reducible refine r_par ?_)
  | (with_reducible refine r_par3 ?_))))
/-! ### what the top has written -/
structure DefF (K : PySem.W.Frag) (x : Str) (st : Stmt) (f : Addr) : Prop where
  ns : PySem.W.nsIn K mainGlobals x = some (some (.ref f))
  fn : ∃ (oc : Value) (od an : Option Addr) (kV doc pm cdv ct : Value) (osl : Array (Option Value)), K.lookup f = some ⟨oc, od, .func (PySem.W.fnOf x x (defArgs st) (defBody st) (defScope st) .none kV doc pm an cdv ct), osl⟩ ∧ PySem.W.codeIn K cdv x = true
  kp : PySem.W.keepIn K (.ref f) = true
theorem defF_mk {K : PySem.W.Frag} {x : Str} {st : Stmt} {f : Addr} {oc : Value} {od an : Option Addr} {kV doc pm cdv ct : Value} {osl : Array (Option Value)} (a : PySem.W.nsIn K mainGlobals x = some (some (.ref f)))
    (l : K.lookup f = some ⟨oc, od, .func (PySem.W.fnOf x x (defArgs st) (defBody st) (defScope st) .none kV doc pm an cdv ct), osl⟩) (c : PySem.W.codeIn K cdv x = true) (k : PySem.W.keepIn K (.ref f) = true) : DefF K x st f :=
  ⟨a, ⟨oc, od, an, kV, doc, pm, cdv, ct, osl, l, c⟩, k⟩
theorem DefF.fun_ {K : PySem.W.Frag} {x : Str} {st : Stmt} {f : Addr} (d : DefF K x st f) : ∃ fd, Fun K x x st f fd := by
  obtain ⟨oc, od, an, kV, doc, pm, cdv, ct, osl, l, c⟩ := d.fn
  exact ⟨_, fun_mk l c d.kp⟩
section
variable {P : Program} {w : World} {K : PySem.W.Frag} {mg : Str → Option Value} {base : Heap}
theorem cal_mk {h : Heap} {x : Str} {st : Stmt} {f : Addr} {ps : List Str} {k : Nat} {sp : Sp} (X : K.In h) (G : h.Ns mainGlobals mg) (d : DefF K x st f)
    (hb : ∀ (kV doc pm : Value) (an : Option Addr) (cdv ct : Value) (us : List Value), us.length = ps.length → bindArgs (PySem.W.fnOf x x (defArgs st) (defBody st) (defScope st) .none kV doc pm an cdv ct) ⟨us, []⟩ = pure (ps.zip us))
    (ok : ∀ fd, Fun K x x st f fd → FnOk P w K mg base CX0 k f fd ps sp) : CalT P w K mg base k x sp := by
  obtain ⟨fd, F⟩ := d.fun_
  exact ⟨f, fd, ps, ok fd F, PySem.W.mg_of X G d.ns, d.kp, F.binds hb⟩
theorem calk_mk {h : Heap} {x : Str} {st : Stmt} {f : Addr} {ps : List Str} {k : Nat} {sp : Sp} {n1 : Str} (X : K.In h) (G : h.Ns mainGlobals mg) (d : DefF K x st f)
    (hb : ∀ (kV doc pm : Value) (an : Option Addr) (cdv ct : Value) (u : Value), bindArgs (PySem.W.fnOf x x (defArgs st) (defBody st) (defScope st) .none kV doc pm an cdv ct) ⟨[], [(n1, u)]⟩ = pure (ps.zip [u]))
    (ok : ∀ fd, Fun K x x st f fd → FnOk P w K mg base CX0 k f fd ps sp) : CalK P w K mg base k x [n1] sp := by
  obtain ⟨fd, F⟩ := d.fun_
  refine ⟨f, fd, ps, ok fd F, PySem.W.mg_of X G d.ns, d.kp, ⟨?_, fun r1 r2 => r1.append r2⟩⟩
  obtain ⟨oc, od, kV, doc, pm, an, cdv, ct, osl, rfl, lk, hcd⟩ := F.ex
  intro s us ws _ h1 h2
  match us, ws, h1, h2 with
  | [], [u], _, _ => exact .of_eq (hb kV doc pm an cdv ct u)
end
structure ExM (K : PySem.W.Frag) (C : Addr) (bm : List Value) : Prop where
  cd : ∃ cd, PySem.W.clsIn K C = some cd ∧ cd.mro = .ref C :: bm
  ty : PySem.W.typeIn K (.ref C) = some (.type "type")
theorem mro_of {K : PySem.W.Frag} {C : Addr} {bm : List Value} (M : ExM K C bm) (b : Value) : PySem.W.subIn K (.ref C) b = some ((Value.ref C :: bm).contains b) := by
  obtain ⟨cd, h1, h2⟩ := M.cd
  show PySem.W.mroIn K C b = _
  unfold PySem.W.mroIn
  rw [h1, Option.bind_some, h2, if_neg (by simp)]
def mT : List Value := [.type "TypeError", .type "Exception", .type "BaseException", .type "object"]
structure ExF (K : PySem.W.Frag) (x qual : Str) (C fI : Addr) (bm : List Value) (st : Stmt) (fs : List Str) : Prop where
  ns : PySem.W.nsIn K mainGlobals x = some (some (.ref C))
  g : ExG K C fI
  m : ExM K C bm
  na : ∀ f ∈ fs, PySem.W.findIn K (.ref C) f = some none
  fn : ∃ (oc : Value) (od an : Option Addr) (kV doc pm cdv ct : Value) (osl : Array (Option Value)), K.lookup fI = some ⟨oc, od, .func (PySem.W.fnOf "__init__" qual (defArgs st) (defBody st) (defScope st) .none kV doc pm an cdv ct), osl⟩ ∧ PySem.W.codeIn K cdv qual = true
  kp : PySem.W.keepIn K (.ref fI) = true
theorem exF_mk {K : PySem.W.Frag} {x qual : Str} {C fI : Addr} {bm : List Value} {st : Stmt} {fs : List Str} {B newId initId B' : String} {bmA : List Value} {cd : ClassData} {oc : Value} {od an : Option Addr} {kV doc pm cdv ct : Value} {osl : Array (Option Value)}
    (FB : PySem.ExcBaseFacts B newId initId bmA) (SF : PySem.StoreFacts B' bm "object.__setattr__" "object") (t : bm.contains (.type B) = true ∧ bm.contains (.type "AttributeError") = false ∧ bm.contains (.type "NameError") = false)
    (ns : PySem.W.nsIn K mainGlobals x = some (some (.ref C))) (hin : PySem.W.excInitIn K C bm newId = true) (hov : PySem.W.excOver K C bm = true)
    (sa : PySem.W.findIn K (.ref C) "__setattr__" = some (some (.builtin "object.__setattr__"))) (iC : PySem.W.findIn K (.ref C) "__init__" = some (some (.ref fI))) (tI : PySem.W.typeIn K (.ref fI) = some (.type "function")) (kC : PySem.W.keepIn K (.ref C) = true)
    (ga : PySem.W.findIn K (.ref C) "__getattribute__" = some (some (.builtin "BaseException.__getattribute__"))) (gg : PySem.W.findIn K (.ref C) "__getattr__" = some none) (exC : PySem.W.subIn K (.ref C) (.type "BaseException") = some true) (hd : PySem.W.hasDictIn K C = true)
    (ha : PySem.W.findIn K (.ref C) "__class__" = some (some (.builtin "object.__class__"))) (hn : PySem.W.specialIn K (.builtin "object.__class__") "__get__" = some (some (.builtin "getset_descriptor.__get__"))) (ht : PySem.W.takesIn K (.builtin "object.__class__") = some true) (hm : PySem.W.mroIn K C (.type "object") = some true)
    (hcd : PySem.W.clsIn K C = some cd) (hmro : cd.mro = .ref C :: bm) (ty : PySem.W.typeIn K (.ref C) = some (.type "type"))
    (l : K.lookup fI = some ⟨oc, od, .func (PySem.W.fnOf "__init__" qual (defArgs st) (defBody st) (defScope st) .none kV doc pm an cdv ct), osl⟩) (c : PySem.W.codeIn K cdv qual = true) (k : PySem.W.keepIn K (.ref fI) = true)
    (na : ∀ f ∈ fs, PySem.W.findIn K (.ref C) f = some none) : ExF K x qual C fI bm st fs :=
  ⟨ns, ⟨⟨B, newId, initId, bmA, B', bm, FB, SF, hin, hov, t.1, t.2.1, t.2.2⟩, sa, iC, tI, kC, ga, gg, exC, hd, ha, hn, ht, hm⟩, ⟨⟨cd, hcd, hmro⟩, ty⟩, na, ⟨oc, od, an, kV, doc, pm, cdv, ct, osl, l, c⟩, k⟩
theorem exm_me {K : PySem.W.Frag} {x qual : Str} {C fI : Addr} {bm : List Value} {st : Stmt} {fs : List Str} (e : ExF K x qual C fI bm st fs) : PySem.W.exmOne K (.ref C) (.ref C) = some true := by
  obtain ⟨cd, h1, h2⟩ := e.m.cd
  have e1 : (PySem.W.subIn K (.ref C) (.type "BaseException") == some true) = true := by rw [e.g.exC] <;> rfl
  have e2 : ((PySem.W.clsIn K C).isSome && PySem.W.typeIn K (.ref C) == some (.type "type")) = true := by rw [h1, e.m.ty] <;> rfl
  show (if (PySem.W.subIn K (.ref C) (.type "BaseException") == some true) = true then (if ((PySem.W.clsIn K C).isSome && PySem.W.typeIn K (.ref C) == some (.type "type")) = true then PySem.W.subIn K (.ref C) (.ref C) else none) else none) = some true
  rw [if_pos e1, if_pos e2, mro_of e.m (.ref C)]
  simp
theorem ExF.init {K : PySem.W.Frag} {x qual : Str} {C fI : Addr} {bm : List Value} {st : Stmt} {fs ps : List Str} (e : ExF K x qual C fI bm st fs)
    (hb : ∀ (kV doc pm : Value) (an : Option Addr) (cdv ct : Value) (us : List Value), us.length = ps.length → bindArgs (PySem.W.fnOf "__init__" qual (defArgs st) (defBody st) (defScope st) .none kV doc pm an cdv ct) ⟨us, []⟩ = pure (ps.zip us)) :
    ∃ fd, Fun K "__init__" qual st fI fd ∧ Binds K fd ps [] := by
  obtain ⟨oc, od, an, kV, doc, pm, cdv, ct, osl, l, c⟩ := e.fn
  have F := fun_mk l c e.kp
  exact ⟨_, F, F.binds fun kV doc pm an cdv ct us hl => hb kV doc pm an cdv ct us hl⟩
structure HdrF (K : PySem.W.Frag) (f : Addr) : Prop where
  ns : PySem.W.nsIn K mainGlobals "header" = some (some (.ref f))
  ex : ∃ (oc : Value) (od : Option Addr) (D : Addr) (doc pm : Value) (an : Option Addr) (cdv ct : Value) (osl : Array (Option Value)) (t1 t2 t3 t4 : Tok),
    K.lookup f = some ⟨oc, od, .func (PySem.W.fnOf "header" "header" (defArgs s_header) (defBody s_header) (defScope s_header) .none (.ref D) doc pm an cdv ct), osl⟩ ∧ PySem.W.codeIn K cdv "header" = true ∧
    PySem.W.nsIn K D "mode" = some (some (.int 0 t1)) ∧ PySem.W.nsIn K D "size" = some (some (.int 0 t2)) ∧ PySem.W.nsIn K D "time" = some (some (.int 0 t3)) ∧ PySem.W.nsIn K D "target" = some (some (.str "" t4))
  kp : PySem.W.keepIn K (.ref f) = true
theorem hdrF_mk {K : PySem.W.Frag} {f : Addr} {oc : Value} {od : Option Addr} {D : Addr} {doc pm : Value} {an : Option Addr} {cdv ct : Value} {osl : Array (Option Value)} {t1 t2 t3 t4 : Tok} (ns : PySem.W.nsIn K mainGlobals "header" = some (some (.ref f)))
    (l : K.lookup f = some ⟨oc, od, .func (PySem.W.fnOf "header" "header" (defArgs s_header) (defBody s_header) (defScope s_header) .none (.ref D) doc pm an cdv ct), osl⟩) (c : PySem.W.codeIn K cdv "header" = true) (k : PySem.W.keepIn K (.ref f) = true)
    (i1 : PySem.W.nsIn K D "mode" = some (some (.int 0 t1))) (i2 : PySem.W.nsIn K D "size" = some (some (.int 0 t2))) (i3 : PySem.W.nsIn K D "time" = some (some (.int 0 t3))) (i4 : PySem.W.nsIn K D "target" = some (some (.str "" t4))) : HdrF K f :=
  ⟨ns, ⟨oc, od, D, doc, pm, an, cdv, ct, osl, t1, t2, t3, t4, l, c, i1, i2, i3, i4⟩, k⟩
theorem HdrF.fun_ {K : PySem.W.Frag} {f : Addr} (d : HdrF K f) : ∃ fd, Fun K "header" "header" s_header f fd ∧ FunD K "header" "header" (defArgs s_header) (defBody s_header) (defScope s_header) [] [("mode", .int 0), ("size", .int 0), ("time", .int 0), ("target", .str "")] f fd := by
  obtain ⟨oc, od, D, doc, pm, an, cdv, ct, osl, t1, t2, t3, t4, l, c, i1, i2, i3, i4⟩ := d.ex
  refine ⟨_, fun_mk l c d.kp, ⟨⟨oc, od, .none, .ref D, doc, pm, an, cdv, ct, osl, rfl, l, c, .inl ⟨rfl, rfl⟩, .inr ⟨D, rfl, ?_⟩⟩, d.kp⟩⟩
  intro q hq
  simp only [List.mem_cons, List.not_mem_nil, or_false] at hq
  rcases hq with rfl | rfl | rfl | rfl
  · exact ⟨_, i1, ⟨_, rfl⟩⟩
  · exact ⟨_, i2, ⟨_, rfl⟩⟩
  · exact ⟨_, i3, ⟨_, rfl⟩⟩
  · exact ⟨_, i4, ⟨_, rfl⟩⟩
theorem hkF_rel {zs mz : List V} {ws mv : List Value} (r : Vals mz mv) (q : Vals zs ws) : Vals (hkF zs mz) (hkF ws mv) := by
  cases q with
  | nil => exact .nil
  | cons a q => cases q with
    | nil => exact .nil
    | cons b q => cases q with
      | nil => exact .nil
      | cons c q => cases q with
        | cons d q => exact .nil
        | nil => cases r with
          | nil => exact .nil
          | cons a' r => cases r with
            | nil => exact .nil
            | cons b' r => cases r with
              | nil => exact .nil
              | cons c' r => cases r with
                | cons d' r => exact .nil
                | nil => exact .cons c (.cons b (.cons a' (.cons b' (.cons c' (.cons a .nil)))))
section
variable {P : Program} {w : World} {K : PySem.W.Frag} {mg : Str → Option Value} {base : Heap}
theorem false_ok {f : Addr} {fd : FuncData} (F : Fun K "copied" "copied" s_copied f fd) : FnOk P w K mg base CX0 0 f fd ["thing"] (fun _ _ _ _ => False) :=
  ⟨fun _ _ _ _ h => h.elim, fun _ _ _ _ _ _ _ _ _ _ _ _ _ h => h.elim⟩
theorem calx_mk {h : Heap} {x : Str} {st : Stmt} {f : Addr} {ps : List Str} {k : Nat} {sp : Sp} (X : K.In h) (G : h.Ns mainGlobals mg) (d : DefF K x st f)
    (hb : ∀ (kV doc pm : Value) (an : Option Addr) (cdv ct : Value) (us : List Value), us.length = ps.length → bindArgs (PySem.W.fnOf x x (defArgs st) (defBody st) (defScope st) .none kV doc pm an cdv ct) ⟨us, []⟩ = pure (ps.zip us))
    (ok : ∀ fd, Fun K x x st f fd → FnOk P w K mg base (L2.CX P w) k f fd ps sp) : CalX P w K mg base k x sp := by
  obtain ⟨fd, F⟩ := d.fun_
  exact ⟨f, fd, ps, ok fd F, PySem.W.mg_of X G d.ns, d.kp, F.binds hb⟩
theorem calg_mk {h : Heap} {x : Str} {st : Stmt} {f : Addr} {ps : List Str} {k : Nat} {sp : Sp} (X : K.In h) (G : h.Ns mainGlobals mg) (d : DefF K x st f)
    (hb : ∀ (kV doc pm : Value) (an : Option Addr) (cdv ct : Value) (us : List Value), us.length = ps.length → bindArgs (PySem.W.fnOf x x (defArgs st) (defBody st) (defScope st) .none kV doc pm an cdv ct) ⟨us, []⟩ = pure (ps.zip us))
    (ok : ∀ fd, Fun K x x st f fd → FnG P w K mg base k f fd ps sp) : CalG P w K mg base k x sp := by
  obtain ⟨fd, F⟩ := d.fun_
  exact ⟨f, fd, ps, ok fd F, PySem.W.mg_of X G d.ns, d.kp, F.binds hb⟩
theorem all_mk {l : PySem.W.OpenLaw} {w : World} {K : PySem.W.Frag} {h : Heap} {mg : Str → Option Value} {fa C fI cB cD cM f_header f_law f_copied f_is_integer f_is_integer_within f_is_row_of_bytes f_blob f__law_source f__law_draw f__law_random_name f__law_any_name f_text_field f_octal_field f_checksum f_checksum_field f__law_codes f__law_octal f__law_head f__law_total f__law_refused : Addr} {t_TEXT_SIZE t_BLOCK_SIZE t_MAGIC t_REST_SIZE : Tok} (X : K.In h) (G : h.Ns mainGlobals mg) (hfa : mg "law" = some (.ref fa))
    (d_law : DefF K "law" s_law f_law)
    (d_copied : DefF K "copied" s_copied f_copied)
    (d_is_integer : DefF K "is_integer" s_is_integer f_is_integer)
    (d_is_integer_within : DefF K "is_integer_within" s_is_integer_within f_is_integer_within)
    (d_is_row_of_bytes : DefF K "is_row_of_bytes" s_is_row_of_bytes f_is_row_of_bytes)
    (d_blob : DefF K "blob" s_blob f_blob)
    (d__law_source : DefF K "_law_source" s__law_source f__law_source)
    (d__law_draw : DefF K "_law_draw" s__law_draw f__law_draw)
    (d__law_random_name : DefF K "_law_random_name" s__law_random_name f__law_random_name)
    (d__law_any_name : DefF K "_law_any_name" s__law_any_name f__law_any_name)
    (d_text_field : DefF K "text_field" s_text_field f_text_field)
    (d_octal_field : DefF K "octal_field" s_octal_field f_octal_field)
    (d_checksum : DefF K "checksum" s_checksum f_checksum)
    (d_checksum_field : DefF K "checksum_field" s_checksum_field f_checksum_field)
    (d__law_codes : DefF K "_law_codes" s__law_codes f__law_codes)
    (d__law_octal : DefF K "_law_octal" s__law_octal f__law_octal)
    (d__law_head : DefF K "_law_head" s__law_head f__law_head)
    (d__law_total : DefF K "_law_total" s__law_total f__law_total)
    (d__law_refused : DefF K "_law_refused" s__law_refused f__law_refused)
    (d_header : HdrF K f_header)
    (xB : ExF K "NoBlock" "NoBlock.__init__" C fI mT s_NoBlock___init__ ["thing"])
    (n_NoBlob : PySem.W.nsIn K mainGlobals "NoBlob" = some (some (.ref cB)))
    (n_NoData : PySem.W.nsIn K mainGlobals "NoData" = some (some (.ref cD)))
    (n_NoMember : PySem.W.nsIn K mainGlobals "NoMember" = some (some (.ref cM)))
    (kT : PySem.W.kitOne K (.ref C) (.type "TypeError") = some true)
    (k1 : PySem.W.kitOne K (.ref C) (.ref cB) = some false)
    (k2 : PySem.W.kitOne K (.ref C) (.ref cD) = some false)
    (k3 : PySem.W.kitOne K (.ref C) (.ref cM) = some false)
    (n_TEXT_SIZE : PySem.W.nsIn K mainGlobals "TEXT_SIZE" = some (some (.int 100 t_TEXT_SIZE)))
    (n_BLOCK_SIZE : PySem.W.nsIn K mainGlobals "BLOCK_SIZE" = some (some (.int 512 t_BLOCK_SIZE)))
    (n_MAGIC : PySem.W.nsIn K mainGlobals "MAGIC" = some (some (.bytes #[117, 115, 116, 97, 114, 0, 48, 48] t_MAGIC)))
    (n_REST_SIZE : PySem.W.nsIn K mainGlobals "REST_SIZE" = some (some (.int 247 t_REST_SIZE)))
    (z : ∀ b ∈ (["isinstance", "bool", "int", "list", "tuple", "all", "bytes", "len", "abs", "min", "range", "sum", "ord", "dict", "TypeError", "repr", "max"] : List Str), PySem.W.nsIn K mainGlobals b = some none) :
    ∃ fd : FuncData, (∀ (s : Shared) (v : Value), BindsTo s fd ⟨[v], []⟩ [("_law_script", v)]) ∧ ∀ base : Heap, K.In base → base.Ns mainGlobals mg → FnG l.prog w K mg base 7 fa fd ["_law_script"] (spLaw K) := by
  have e := hfa.symm.trans (PySem.W.mg_of X G d_law.ns)
  cases e
  have bs : ∀ b ∈ (["isinstance", "bool", "int", "list", "tuple", "all", "bytes", "len", "abs", "min", "range", "sum", "ord", "dict", "TypeError", "repr", "max"] : List Str), mg b = none := fun b hb => PySem.W.mg_none_of X G (z b hb)
  have b_isinstance : mg "isinstance" = none := bs _ (by simp)
  have b_bool : mg "bool" = none := bs _ (by simp)
  have b_int : mg "int" = none := bs _ (by simp)
  have b_list : mg "list" = none := bs _ (by simp)
  have b_tuple : mg "tuple" = none := bs _ (by simp)
  have b_all : mg "all" = none := bs _ (by simp)
  have b_bytes : mg "bytes" = none := bs _ (by simp)
  have b_len : mg "len" = none := bs _ (by simp)
  have b_abs : mg "abs" = none := bs _ (by simp)
  have b_min : mg "min" = none := bs _ (by simp)
  have b_range : mg "range" = none := bs _ (by simp)
  have b_sum : mg "sum" = none := bs _ (by simp)
  have b_ord : mg "ord" = none := bs _ (by simp)
  have b_dict : mg "dict" = none := bs _ (by simp)
  have b_TypeError : mg "TypeError" = none := bs _ (by simp)
  have b_repr : mg "repr" = none := bs _ (by simp)
  have b_max : mg "max" = none := bs _ (by simp)
  have g_TEXT_SIZE := PySem.W.mg_of X G n_TEXT_SIZE
  have g_BLOCK_SIZE := PySem.W.mg_of X G n_BLOCK_SIZE
  have g_MAGIC := PySem.W.mg_of X G n_MAGIC
  have g_REST_SIZE := PySem.W.mg_of X G n_REST_SIZE
  have g_NoBlob := PySem.W.mg_of X G n_NoBlob
  have g_NoData := PySem.W.mg_of X G n_NoData
  have g_NoMember := PySem.W.mg_of X G n_NoMember
  have hex := exm_me xB
  have g_NoBlock := PySem.W.mg_of X G xB.ns
  have kN : PySem.W.kitAny K (.ref C) [.ref cB, .ref cD, .ref cM] = some false := by simp only [PySem.W.kitAny, k1, k2, k3]
  obtain ⟨fd, F⟩ := d_law.fun_
  refine ⟨fd, ?_, ?_⟩
  · obtain ⟨oc, od, kV, doc, pm, an, cdv, ct, osl, rfl, lk, hcd⟩ := F.ex
    intro s v
    exact .of_eq rfl
  · intro base Xb Gb
    have c_is_integer : CalT l.prog w K mg base 1 "is_integer" spIsI := cal_mk Xb Gb d_is_integer (ps := ["thing"]) (fun _ _ _ _ _ _ us hl => match us, hl with | [_], _ => rfl) fun fd F => ok_isI F b_isinstance b_bool b_int
    have c_is_integer_within : CalT l.prog w K mg base 2 "is_integer_within" spWithin := cal_mk Xb Gb d_is_integer_within (ps := ["thing", "least", "most"]) (fun _ _ _ _ _ _ us hl => match us, hl with | [_, _, _], _ => rfl) fun fd F => ok_within F c_is_integer
    have c_is_row_of_bytes : CalT l.prog w K mg base 3 "is_row_of_bytes" spRow := cal_mk Xb Gb d_is_row_of_bytes (ps := ["thing"]) (fun _ _ _ _ _ _ us hl => match us, hl with | [_], _ => rfl) fun fd F => ok_row F c_is_integer_within b_isinstance b_list b_tuple b_all
    have c_blob : CalT l.prog w K mg base 4 "blob" spBlob := cal_mk Xb Gb d_blob (ps := ["numbers"]) (fun _ _ _ _ _ _ us hl => match us, hl with | [_], _ => rfl) fun fd F => ok_blob F c_is_row_of_bytes b_bytes
    have c__law_source : CalT l.prog w K mg base 2 "_law_source" (spSource K) := cal_mk Xb Gb d__law_source (ps := ["_law_script", "_law_at"]) (fun _ _ _ _ _ _ us hl => match us, hl with | [_, _], _ => rfl) fun fd F => ok_source F b_len b_int b_abs b_min b_range
    have c__law_draw : CalT l.prog w K mg base 2 "_law_draw" spDraw := cal_mk Xb Gb d__law_draw (ps := ["_law_source_here", "_law_many"]) (fun _ _ _ _ _ _ us hl => match us, hl with | [_, _], _ => rfl) fun fd F => ok_draw F b_int
    have c__law_random_name : CalT l.prog w K mg base 3 "_law_random_name" spRName := cal_mk Xb Gb d__law_random_name (ps := ["_law_source_here", "_law_many"]) (fun _ _ _ _ _ _ us hl => match us, hl with | [_, _], _ => rfl) fun fd F => ok_rname F b_range c__law_draw
    have c__law_any_name : CalT l.prog w K mg base 4 "_law_any_name" spAName := cal_mk Xb Gb d__law_any_name (ps := ["_law_source_here"]) (fun _ _ _ _ _ _ us hl => match us, hl with | [_], _ => rfl) fun fd F => ok_aname F b_len c__law_draw c__law_random_name
    have c_text_field : CalT l.prog w K mg base 2 "text_field" spTField := cal_mk Xb Gb d_text_field (ps := ["text"]) (fun _ _ _ _ _ _ us hl => match us, hl with | [_], _ => rfl) fun fd F => ok_tfield F b_len b_bytes g_TEXT_SIZE
    have c_octal_field : CalT l.prog w K mg base 2 "octal_field" spOField := cal_mk Xb Gb d_octal_field (ps := ["number", "size"]) (fun _ _ _ _ _ _ us hl => match us, hl with | [_, _], _ => rfl) fun fd F => ok_ofield F 
    have c_checksum : CalT l.prog w K mg base 2 "checksum" spCheck := cal_mk Xb Gb d_checksum (ps := ["block"]) (fun _ _ _ _ _ _ us hl => match us, hl with | [_], _ => rfl) fun fd F => ok_check F b_sum b_len b_isinstance b_bytes g_BLOCK_SIZE
    have c_checksum_field : CalT l.prog w K mg base 3 "checksum_field" spCField := cal_mk Xb Gb d_checksum_field (ps := ["block"]) (fun _ _ _ _ _ _ us hl => match us, hl with | [_], _ => rfl) fun fd F => ok_cfield F c_checksum
    have c__law_codes : CalT l.prog w K mg base 2 "_law_codes" spCodes := cal_mk Xb Gb d__law_codes (ps := ["_law_text"]) (fun _ _ _ _ _ _ us hl => match us, hl with | [_], _ => rfl) fun fd F => ok_codes F b_ord
    have c__law_octal : CalT l.prog w K mg base 2 "_law_octal" spOctal := cal_mk Xb Gb d__law_octal (ps := ["_law_number", "_law_width"]) (fun _ _ _ _ _ _ us hl => match us, hl with | [_, _], _ => rfl) fun fd F => ok_octal F b_range b_int
    have c__law_head : CalT l.prog w K mg base 3 "_law_head" (spHead K) := cal_mk Xb Gb d__law_head (ps := ["_law_letter", "_law_label", "_law_numbers", "_law_aim2"]) (fun _ _ _ _ _ _ us hl => match us, hl with | [_, _, _, _], _ => rfl) fun fd F => ok_head F c__law_codes c__law_octal b_sum
    have c__law_total : CalT l.prog w K mg base 2 "_law_total" spTotal := cal_mk Xb Gb d__law_total (ps := ["_law_numbers"]) (fun _ _ _ _ _ _ us hl => match us, hl with | [_], _ => rfl) fun fd F => ok_total F b_sum
    have k_checksum : CalK l.prog w K mg base 2 "checksum" ["block"] spCheck := calk_mk Xb Gb d_checksum (ps := ["block"]) (fun _ _ _ _ _ _ _ => rfl) fun fd F => ok_check F b_sum b_len b_isinstance b_bytes g_BLOCK_SIZE
    have c0 : CalT l.prog w K mg base 0 "copied" (fun _ _ _ _ => False) := cal_mk Xb Gb d_copied (ps := ["thing"]) (fun _ _ _ _ _ _ us hl => match us, hl with | [_], _ => rfl) fun fd F => false_ok F
    have c1 : CalT l.prog w K mg base 1 "copied" spCopI := cal_mk Xb Gb d_copied (ps := ["thing"]) (fun _ _ _ _ _ _ us hl => match us, hl with | [_], _ => rfl) fun fd F => ok_copI F b_isinstance b_list b_tuple b_dict c0
    have c2 : CalT l.prog w K mg base 2 "copied" spCopO := cal_mk Xb Gb d_copied (ps := ["thing"]) (fun _ _ _ _ _ _ us hl => match us, hl with | [_], _ => rfl) fun fd F => ok_copO F b_isinstance b_list b_tuple b_dict c1
    obtain ⟨fdI, FI, hb1⟩ := xB.init (ps := ["self", "thing"]) (fun _ _ _ _ _ _ us hl => match us, hl with | [_, _], _ => rfl)
    have F1 : FnOk l.prog w K mg base CX0 3 fI fdI ["self", "thing"] (spIB C) := ok_iNoBlock FI xB.g (xB.na _ List.mem_cons_self) c2
    have x_checksum : CalX l.prog w K mg base 5 "checksum" (spCheckX C) := calx_mk Xb Gb d_checksum (ps := ["block"]) (fun _ _ _ _ _ _ us hl => match us, hl with | [_], _ => rfl) fun fd F => ok_checkX F xB.g xB.m.ty F1 hb1 g_NoBlock b_isinstance b_bytes b_len b_sum g_BLOCK_SIZE
    have r__law_refused : CalG l.prog w K mg base 6 "_law_refused" (spRefused Odd) := calg_mk Xb Gb d__law_refused (ps := ["_law_thing"]) (fun _ _ _ _ _ _ us hl => match us, hl with | [_], _ => rfl) fun fd F => ok_refused F xB.g (xB.na _ List.mem_cons_self) kT kN hex g_NoBlock g_NoBlob g_NoData g_NoMember b_isinstance b_TypeError b_repr x_checksum
    obtain ⟨fdH, FH, DH⟩ := d_header.fun_
    have FkH : FnOk l.prog w K mg base CX0 4 f_header fdH ["kind", "name", "mode", "size", "time", "target"] spHeader := (fun F => ok_header F c_checksum_field c_text_field c_octal_field b_bytes g_MAGIC g_REST_SIZE) FH
    have c_header_k2 : CalN l.prog w K mg base 4 "header" 2 ["mode", "size", "time", "target"] (fun us ws => us ++ ws) spHeader := by
      obtain ⟨mv, hb⟩ := DH.kbinds0 (ps := ["kind", "name", "mode", "size", "time", "target"]) 2 ["mode", "size", "time", "target"] [] (fun us _ ws => us ++ ws) (by simp) (by simp) (fun r1 _ r2 => r1.append r2) (fun D doc pm an cdv ct us mv ws h1 h2 h3 => match us, mv, ws, h1, h2, h3 with | [_, _], [], [_, _, _, _], _, _, _ => rfl)
      exact ⟨f_header, fdH, _, _, FkH, PySem.W.mg_of X G d_header.ns, d_header.kp, hb⟩
    have c_header_k : CalN l.prog w K mg base 4 "header" 0 ["target", "name", "kind"] (fun _ ws => hkF ws [.int 0, .int 0, .int 0]) spHeader := by
      obtain ⟨mv, hb⟩ := DH.kbinds0 (ps := ["kind", "name", "mode", "size", "time", "target"]) 0 ["target", "name", "kind"] [("mode", .int 0), ("size", .int 0), ("time", .int 0)] (fun _ mv ws => hkF ws mv) (by simp) (by simp) (fun _ r q => hkF_rel r q) (fun D doc pm an cdv ct us mv ws h1 h2 h3 => match us, mv, ws, h1, h2, h3 with | [], [_, _, _], [_, _, _], _, _, _ => ⟨_, _, _, _, _, _, rfl, rfl, _, _, _, _, _, _, rfl, rfl, _, _, _, _, _, _, rfl, rfl, rfl⟩)
      exact ⟨f_header, fdH, _, _, FkH, PySem.W.mg_of X G d_header.ns, d_header.kp, hb⟩
    have c_headerD : CalD l.prog w K mg base 4 "header" [.int 0, .int 0, .int 0, .str ""] spHeader := by
      obtain ⟨ds, hd, hb⟩ := DH.binds0 (ps := ["kind", "name", "mode", "size", "time", "target"]) 2 (by simp) rfl (fun D doc pm an cdv ct us ks h1 h2 => match us, ks, h1, h2 with | [_, _], [_, _, _, _], _, _ => ⟨_, _, _, _, _, _, rfl, rfl, _, _, _, _, _, _, rfl, rfl, _, _, _, _, _, _, rfl, rfl, _, _, _, _, _, _, rfl, rfl, rfl⟩)
      exact ⟨f_header, fdH, _, ds, FkH, PySem.W.mg_of X G d_header.ns, d_header.kp, hb, hd⟩
    exact ok_law F b_range b_max b_min b_len b_list c__law_source c__law_draw c__law_any_name c__law_head c__law_total c_blob c_checksum k_checksum r__law_refused c_header_k2 c_header_k c_headerD
theorem walk {l : PySem.W.OpenLaw} {q : Program} {loose : List Str} {XP : (Str → Option Value) → Heap → Prop} {YP : World → Heap → Prop} {d : DefRec} {K : Params → PySem.W.Frag} (hn : l.most = some 63) (hdf : d.params.defaults = [])
    (hY : ∀ (w : World) (h : Heap), YP w h → (K w.params).In h)
    (F : ∀ (w : World) (mg : Str → Option Value) (fa : Addr) (h : Heap), (K w.params).In h → h.Ns mainGlobals mg → mg d.name = some (.ref fa) →
      ∃ fd : FuncData, (∀ (s : Shared) (u : Value), BindsTo s fd ⟨[u], []⟩ [("_law_script", u)]) ∧ ∀ base : Heap, (K w.params).In base → base.Ns mainGlobals mg → FnG l.prog w (K w.params) mg base 7 fa fd ["_law_script"] (spLaw (K w.params))) :
    PySem.W.WalkO q loose XP YP l.row.toRowW d [] (fun f vs => PySem.call f vs) :=
  walkG (n := 63) (k := 7) (sp := fun w => spLaw (K w.params)) hn (by decide) hdf ⟨rfl, by decide, by decide⟩ hY F (fun _ _ a ns hl _ hS => ⟨a, ns, rfl, hS, hl, fun _ => rfl⟩)
end
end Th
open PySem PySem.W PyProof.Rows
set_option maxRecDepth 100000 in
set_option maxHeartbeats 0 in
theorem PySem.Challenge.cw_tarhouse_k05_headers_built_holds : PySem.Challenge.rw_tarhouse_k05_headers_built.Holds := by
  w_on; o_law; k_head; (case hw => w_witness2)
  k_fill
  refine Th.walk (l := PySem.Challenge.rw_tarhouse_k05_headers_built) rfl rfl (fun w h Y => PySem.W.kIn_of Y) ?F
  case F =>
    intro w mg fa h KX G hmg
    refine' Th.all_mk KX G hmg (Th.defF_mk ?a_law ?l_law ?c_law ?k_law) (Th.defF_mk ?a_copied ?l_copied ?c_copied ?k_copied) (Th.defF_mk ?a_is_integer ?l_is_integer ?c_is_integer ?k_is_integer) (Th.defF_mk ?a_is_integer_within ?l_is_integer_within ?c_is_integer_within ?k_is_integer_within) (Th.defF_mk ?a_is_row_of_bytes ?l_is_row_of_bytes ?c_is_row_of_bytes ?k_is_row_of_bytes) (Th.defF_mk ?a_blob ?l_blob ?c_blob ?k_blob) (Th.defF_mk ?a__law_source ?l__law_source ?c__law_source ?k__law_source) (Th.defF_mk ?a__law_draw ?l__law_draw ?c__law_draw ?k__law_draw) (Th.defF_mk ?a__law_random_name ?l__law_random_name ?c__law_random_name ?k__law_random_name) (Th.defF_mk ?a__law_any_name ?l__law_any_name ?c__law_any_name ?k__law_any_name) (Th.defF_mk ?a_text_field ?l_text_field ?c_text_field ?k_text_field) (Th.defF_mk ?a_octal_field ?l_octal_field ?c_octal_field ?k_octal_field) (Th.defF_mk ?a_checksum ?l_checksum ?c_checksum ?k_checksum) (Th.defF_mk ?a_checksum_field ?l_checksum_field ?c_checksum_field ?k_checksum_field) (Th.defF_mk ?a__law_codes ?l__law_codes ?c__law_codes ?k__law_codes) (Th.defF_mk ?a__law_octal ?l__law_octal ?c__law_octal ?k__law_octal) (Th.defF_mk ?a__law_head ?l__law_head ?c__law_head ?k__law_head) (Th.defF_mk ?a__law_total ?l__law_total ?c__law_total ?k__law_total) (Th.defF_mk ?a__law_refused ?l__law_refused ?c__law_refused ?k__law_refused) (Th.hdrF_mk ?H_ns ?H_l ?H_c ?H_k ?H_i1 ?H_i2 ?H_i3 ?H_i4) (Th.exF_mk PySem.F.excBase_TypeError PySem.F.store_TypeError (by decide +kernel) ?B_ns ?B_hin ?B_hov ?B_sa ?B_iC ?B_tI ?B_kC ?B_ga ?B_gg ?B_exC ?B_hd ?B_ha ?B_hn ?B_ht ?B_hm ?B_hcd ?B_hmro ?B_ty ?B_l ?B_c ?B_k ?B_na) ?n_NoBlob ?n_NoData ?n_NoMember ?kT ?k1 ?k2 ?k3 ?n_TEXT_SIZE ?n_BLOCK_SIZE ?n_MAGIC ?n_REST_SIZE ?z
    (case a_law => k_is); (case l_law => k_is); (case c_law => k_is); (case k_law => k_is)
    (case a_copied => k_is); (case l_copied => k_is); (case c_copied => k_is); (case k_copied => k_is)
    (case a_is_integer => k_is); (case l_is_integer => k_is); (case c_is_integer => k_is); (case k_is_integer => k_is)
    (case a_is_integer_within => k_is); (case l_is_integer_within => k_is); (case c_is_integer_within => k_is); (case k_is_integer_within => k_is)
    (case a_is_row_of_bytes => k_is); (case l_is_row_of_bytes => k_is); (case c_is_row_of_bytes => k_is); (case k_is_row_of_bytes => k_is)
    (case a_blob => k_is); (case l_blob => k_is); (case c_blob => k_is); (case k_blob => k_is)
    (case a__law_source => k_is); (case l__law_source => k_is); (case c__law_source => k_is); (case k__law_source => k_is)
    (case a__law_draw => k_is); (case l__law_draw => k_is); (case c__law_draw => k_is); (case k__law_draw => k_is)
    (case a__law_random_name => k_is); (case l__law_random_name => k_is); (case c__law_random_name => k_is); (case k__law_random_name => k_is)
    (case a__law_any_name => k_is); (case l__law_any_name => k_is); (case c__law_any_name => k_is); (case k__law_any_name => k_is)
    (case a_text_field => k_is); (case l_text_field => k_is); (case c_text_field => k_is); (case k_text_field => k_is)
    (case a_octal_field => k_is); (case l_octal_field => k_is); (case c_octal_field => k_is); (case k_octal_field => k_is)
    (case a_checksum => k_is); (case l_checksum => k_is); (case c_checksum => k_is); (case k_checksum => k_is)
    (case a_checksum_field => k_is); (case l_checksum_field => k_is); (case c_checksum_field => k_is); (case k_checksum_field => k_is)
    (case a__law_codes => k_is); (case l__law_codes => k_is); (case c__law_codes => k_is); (case k__law_codes => k_is)
    (case a__law_octal => k_is); (case l__law_octal => k_is); (case c__law_octal => k_is); (case k__law_octal => k_is)
    (case a__law_head => k_is); (case l__law_head => k_is); (case c__law_head => k_is); (case k__law_head => k_is)
    (case a__law_total => k_is); (case l__law_total => k_is); (case c__law_total => k_is); (case k__law_total => k_is)
    (case a__law_refused => k_is); (case l__law_refused => k_is); (case c__law_refused => k_is); (case k__law_refused => k_is)
    (case H_ns => k_is); (case H_l => k_is); (case H_c => k_is); (case H_k => k_is); (case H_i1 => k_is); (case H_i2 => k_is); (case H_i3 => k_is); (case H_i4 => k_is)
    (case B_ns => k_is); (case B_hin => kx_is); (case B_hov => kx_is); (case B_sa => k_is); (case B_iC => k_is); (case B_tI => k_is); (case B_kC => k_is); (case B_ga => k_is); (case B_gg => k_is); (case B_exC => k_is); (case B_hd => k_is); (case B_ha => k_is); (case B_hn => k_is); (case B_ht => k_is); (case B_hm => k_is); (case B_hcd => k_is); (case B_hmro => exact rfl); (case B_ty => k_is); (case B_l => k_is); (case B_c => k_is); (case B_k => k_is)
    (case n_NoBlob => k_is)
    (case n_NoData => k_is)
    (case n_NoMember => k_is)
    (case kT => kit_is)
    (case k1 => kit_is)
    (case k2 => kit_is)
    (case k3 => kit_is)
    (case n_TEXT_SIZE => k_is)
    (case n_BLOCK_SIZE => k_is)
    (case n_MAGIC => k_is)
    (case n_REST_SIZE => k_is)
    case B_na =>
      refine List.forall_mem_cons.mpr ⟨?_, ?_⟩; (k_is)
      exact fun _ h => nomatch h
    case z =>
      refine List.forall_mem_cons.mpr ⟨?_, ?_⟩; (k_is)
      refine List.forall_mem_cons.mpr ⟨?_, ?_⟩; (k_is)
      refine List.forall_mem_cons.mpr ⟨?_, ?_⟩; (k_is)
      refine List.forall_mem_cons.mpr ⟨?_, ?_⟩; (k_is)
      refine List.forall_mem_cons.mpr ⟨?_, ?_⟩; (k_is)
      refine List.forall_mem_cons.mpr ⟨?_, ?_⟩; (k_is)
      refine List.forall_mem_cons.mpr ⟨?_, ?_⟩; (k_is)
      refine List.forall_mem_cons.mpr ⟨?_, ?_⟩; (k_is)
      refine List.forall_mem_cons.mpr ⟨?_, ?_⟩; (k_is)
      refine List.forall_mem_cons.mpr ⟨?_, ?_⟩; (k_is)
      refine List.forall_mem_cons.mpr ⟨?_, ?_⟩; (k_is)
      refine List.forall_mem_cons.mpr ⟨?_, ?_⟩; (k_is)
      refine List.forall_mem_cons.mpr ⟨?_, ?_⟩; (k_is)
      refine List.forall_mem_cons.mpr ⟨?_, ?_⟩; (k_is)
      refine List.forall_mem_cons.mpr ⟨?_, ?_⟩; (k_is)
      refine List.forall_mem_cons.mpr ⟨?_, ?_⟩; (k_is)
      refine List.forall_mem_cons.mpr ⟨?_, ?_⟩; (k_is)
      exact fun _ h => nomatch h
