import PyProof.Rows.All
import Wide.All
import OpenK.AllK
import Wide.FinOn
import KE.KStateDown
import HandS.Head0
import HandS.Head1
import HandS.Head2
import HandS.HeadHook1
import HandS.HeadHook2
import HandS.HeadHook3
import KE.KIsAll
import HandS.Words
import HandS.HeadHook4
import KE.KExcInit
import HandS.ForMost
import HandS.IsInst
import HandS.Flow
import HandS.Wide
import HandS.Defaults
import HandS.Codes
import HandS.Bytes
import HandS.StrMore
import HandS.Walk
import HandS.More
import HandS.Conv
import HandS.Style
import HandS.FStr
import HandS.Star
import HandS.MakeKwOnly
import HandS.BytesMake
import KE.KBytesNew
import HandS.Text
import HandS.SetKeys
import HandS.DictComp
import HandS.Iter
import KE.KStar
import HandS.Comp
import HandS.OwnEq
import HandS.SlotsOwn
import PyProof.NeKinds
import KE.KStrBytes
import KE.KxField
import PyProof.FString3
import HandS.MapSum
import KE.BytesMulAny
import PyProof.Rows.SumAny
import PyProof.ListStr
import Wide.BytesRules
import PyProof.CallFns
import HandS.RaiseMore
import HandS.Lambda
import HandS.HeadEnd
import HandS.Property
import HandS.EndTab
import HandS.ClsMeth
import HandS.WordsExc
import HandS.TryOnly
import HandS.ExcInit
import HandS.ExcField
import KE.KExcIs
import KE.KExcLine
import PyProof.ExcBaseAll.OverflowError
import PyProof.ExcBaseAll.TypeError
import PyProof.ExcBaseAll.ValueError
import PyProof.ExcBaseAll.RuntimeError
import PyProof.ExcBaseAll.IndexError
import PyProof.ExcBaseAll.LookupError
import PySem.Challenge.RW_tarhouse_k39_long_and_odd_names
set_option Elab.async false
set_option linter.all false
set_option maxRecDepth 100000
set_option maxHeartbeats 8000000
/-! the head by one kernel run, with facts told by Bools over the part that the names reach -/
namespace Hk
open PySem PySem.Spec PyProof.Rows L2
open He (ga ma eqO relB FnV)
/-! ### the whole heap as a list, the newest first, its spine forced -/
def frU {β : Type} (g : Addr → Option Obj) : Nat → Nat → List (Addr × Obj) → (List (Addr × Obj) → β) → β
  | 0, _, acc, k => k acc
  | m + 1, i, acc, k => match g i with
    | some o => HandSHeadRun.frNat (i + 1) fun j => frU g m j ((i, o) :: acc) k
    | none => HandSHeadRun.frNat (i + 1) fun j => frU g m j acc k
/-- the same, not forced -/
def allU (g : Addr → Option Obj) : Nat → Nat → List (Addr × Obj) → List (Addr × Obj)
  | 0, _, acc => acc
  | m + 1, i, acc => match g i with
    | some o => allU g m (i + 1) ((i, o) :: acc)
    | none => allU g m (i + 1) acc
theorem frU_eq {β : Type} {g : Addr → Option Obj} {k : List (Addr × Obj) → β} : ∀ {m i : Nat} {acc : List (Addr × Obj)}, frU g m i acc k = k (allU g m i acc)
  | 0, _, _ => rfl
  | m + 1, i, acc => by
    unfold frU allU
    cases g i with
    | some o =>
      show HandSHeadRun.frNat (i + 1) (fun j => frU g m j ((i, o) :: acc) k) = _
      rw [HandSHeadRun.frNat_eq]
      exact frU_eq
    | none =>
      show HandSHeadRun.frNat (i + 1) (fun j => frU g m j acc k) = _
      rw [HandSHeadRun.frNat_eq]
      exact frU_eq
theorem lookup_at {a : Addr} {o : Obj} : ∀ {l : List (Addr × Obj)}, l.lookup a = some o → (a, o) ∈ l
  | [], h => by cases h
  | (b, u) :: r, h => by
    have e2 : (match a == b with | true => some u | false => r.lookup a) = some o := h
    cases q : (a == b) with
    | true =>
      rw [q] at e2
      have eo : u = o := Option.some.inj e2
      rw [beq_iff_eq.mp q, eo]
      exact .head _
    | false =>
      rw [q] at e2
      exact .tail _ (lookup_at e2)
theorem allU_mem {g : Addr → Option Obj} : ∀ {m i : Nat} {acc : List (Addr × Obj)}, (∀ p ∈ acc, g p.1 = some p.2) → ∀ p ∈ allU g m i acc, g p.1 = some p.2
  | 0, _, _, h => h
  | m + 1, i, acc, h => by
    unfold allU
    cases e : g i with
    | some o =>
      refine allU_mem (acc := (i, o) :: acc) fun p hp => ?_
      cases hp with
      | head => exact e
      | tail _ q => exact h p q
    | none => exact allU_mem h
/-! ### defs -/
structure FnP where
  at_ : PySem.W.Frag → Addr
  name : Str
  qual : Str
  st : Stmt
def fnV (K : PySem.W.Frag) (a : Addr) : FnV := match K.lookup a with
  | some ⟨_, _, .func fd, _⟩ => some (fd.name, fd.qualname, fd.params, fd.body, fd.scope, fd.globals, fd.closure, fd.defaults, fd.builtins)
  | _ => none
def FnP.val (d : FnP) : FnV := some (d.name, d.qual, defArgs d.st, .stmts (defBody d.st), defScope d.st, mainGlobals, [], .none, builtinsNs)
def FnP.ok (d : FnP) (K : PySem.W.Frag) : Bool := PySem.W.keepIn K (.ref (d.at_ K)) && (match K.lookup (d.at_ K) with
  | some ⟨_, _, .func fd, _⟩ => PySem.W.codeIn K fd.code d.qual
  | _ => false)
/-- a def's object, as the head leaves it -/
def FnAt (K : PySem.W.Frag) (x q : Str) (st : Stmt) (f : Addr) : Prop := ∃ (oc : Value) (od an : Option Addr) (kV doc pm cdv ct : Value) (osl : Array (Option Value)), K.lookup f = some ⟨oc, od, .func (PySem.W.fnOf x q (defArgs st) (defBody st) (defScope st) .none kV doc pm an cdv ct), osl⟩ ∧ PySem.W.codeIn K cdv q = true
theorem fn_ok {K : PySem.W.Frag} {d : FnP} (e : fnV K (d.at_ K) = d.val) (c : d.ok K = true) : FnAt K d.name d.qual d.st (d.at_ K) ∧ PySem.W.keepIn K (.ref (d.at_ K)) = true := by
  obtain ⟨kp, c2⟩ := He.ba c
  refine ⟨?_, kp⟩
  unfold fnV at e
  cases q : K.lookup (d.at_ K) with
  | none =>
    rw [q] at c2
    cases c2
  | some o =>
    obtain ⟨oc, od, dt, osl⟩ := o
    rw [q] at c2 e
    cases dt with
    | func fd =>
      obtain ⟨n1, n2, n3, n4, n5, n6, n7, n8, n9, n10, n11, n12, n13, n14, n15⟩ := fd
      have e2 : (some (n1, n2, n3, n4, n5, n6, n7, n8, n15) : FnV) = some (d.name, d.qual, defArgs d.st, .stmts (defBody d.st), defScope d.st, mainGlobals, [], .none, builtinsNs) := e
      simp only [Option.some.injEq, Prod.mk.injEq] at e2
      obtain ⟨h1, h2, h3, h4, h5, h6, h7, h8, h9⟩ := e2
      subst h1 h2 h3 h4 h5 h6 h7 h8 h9
      exact ⟨oc, od, n12, n9, n10, n11, n13, n14, osl, q, c2⟩
    | _ => cases c2
/-- a def's object's keyword defaults: where they stand -/
def kwAt (K : PySem.W.Frag) (f : Addr) : Option Addr := match K.lookup f with
  | some ⟨_, _, .func fd, _⟩ => (match fd.kwdefaults with
    | .ref D => some D
    | _ => none)
  | _ => none
theorem kwAt_ok {K : PySem.W.Frag} {f D : Addr} {oc : Value} {od : Option Addr} {osl : Array (Option Value)} {x q : Str} {p : Arguments} {b : List Stmt} {sc : Scope} {dV kV doc pm : Value} {an : Option Addr} {cdv ct : Value} (l : K.lookup f = some ⟨oc, od, .func (PySem.W.fnOf x q p b sc dV kV doc pm an cdv ct), osl⟩)
    (h : kwAt K f = some D) : kV = .ref D := by
  unfold kwAt at h
  rw [l] at h
  cases kV with
  | ref E =>
    have e : some E = some D := h
    rw [Option.some.inj e]
  | _ => cases h
/-! ### values of names -/
def nsV (K : PySem.W.Frag) (a : Addr) (x : Str) (v : V) : Bool := match PySem.W.nsIn K a x with
  | some (some u) => relB v u
  | _ => false
theorem nsV_ok {K : PySem.W.Frag} {a : Addr} {x : Str} {v : V} (h : nsV K a x v = true) : ∃ u, PySem.W.nsIn K a x = some (some u) ∧ RelV v u := by
  unfold nsV at h
  cases e : PySem.W.nsIn K a x with
  | none =>
    rw [e] at h
    cases h
  | some o =>
    rw [e] at h
    cases o with
    | none => cases h
    | some u => exact ⟨u, rfl, He.relB_ok h⟩
theorem nsI {K : PySem.W.Frag} {a : Addr} {x : Str} {i : Int} (h : nsV K a x (.int i) = true) : ∃ t, PySem.W.nsIn K a x = some (some (.int i t)) := by
  obtain ⟨u, e, t, rfl⟩ := nsV_ok h
  exact ⟨t, e⟩
theorem nsS {K : PySem.W.Frag} {a : Addr} {x : Str} {i : Str} (h : nsV K a x (.str i) = true) : ∃ t, PySem.W.nsIn K a x = some (some (.str i t)) := by
  obtain ⟨u, e, t, rfl⟩ := nsV_ok h
  exact ⟨t, e⟩
/-- the module's name x stands for an object -/
def refV (x : Str) (K : PySem.W.Frag) : Bool := eqO (PySem.W.nsIn K mainGlobals x) (some (some (.ref (ga K x))))
def freeV (x : Str) (K : PySem.W.Frag) : Bool := eqO (PySem.W.nsIn K mainGlobals x) (some none)
/-! ### keyword defaults of a def -/
def kwsV (K : PySem.W.Frag) (f : Addr) (l : List (Str × V)) : Bool := match kwAt K f with
  | some D => l.all fun q => nsV K D q.1 q.2
  | none => false
theorem kwsV_ok {K : PySem.W.Frag} {f : Addr} {l : List (Str × V)} (h : kwsV K f l = true) : ∃ D, kwAt K f = some D ∧ ∀ q ∈ l, nsV K D q.1 q.2 = true := by
  unfold kwsV at h
  cases e : kwAt K f with
  | none =>
    rw [e] at h
    cases h
  | some D =>
    rw [e] at h
    exact ⟨D, rfl, fun q hq => List.all_eq_true.mp h q hq⟩
/-! ### classes -/
/-- what every class of instances with a dict says -/
def clsB (K : PySem.W.Frag) (C : Addr) : Bool := PySem.W.plainGet K C Str.empty && (PySem.W.hasDictIn K C && (PySem.W.plainOver K C && eqO (PySem.W.findIn K (.ref C) "__setattr__") (some (some (.builtin "object.__setattr__")))))
theorem clsB_ok {K : PySem.W.Frag} {C : Addr} (c : clsB K C = true) : Cls K C := by
  obtain ⟨c1, c⟩ := He.ba c
  obtain ⟨c2, c⟩ := He.ba c
  obtain ⟨c3, c4⟩ := He.ba c
  exact ⟨c1, c2, c3, He.eqO_ok c4⟩
def noB (K : PySem.W.Frag) (C : Addr) (l : List Str) : Bool := l.all fun f => eqO (PySem.W.findIn K (.ref C) f) (some none)
theorem noB_ok {K : PySem.W.Frag} {C : Addr} {l : List Str} (c : noB K C l = true) : ∀ f ∈ l, PySem.W.findIn K (.ref C) f = some none := fun f hf => He.eqO_ok (List.all_eq_true.mp c f hf)
def mkB (K : PySem.W.Frag) (C : Addr) : Bool := PySem.W.makesIn K C && (eqO (PySem.W.findIn K (.ref C) "__init__") (some (some (.ref (ma K C "__init__")))) && (PySem.W.isFn K (.ref (ma K C "__init__")) && PySem.W.keepIn K (.ref C)))
theorem mkB_ok {K : PySem.W.Frag} {C : Addr} (c : mkB K C = true) : Mk K C (ma K C "__init__") := by
  obtain ⟨c1, c⟩ := He.ba c
  obtain ⟨c2, c⟩ := He.ba c
  obtain ⟨c3, c4⟩ := He.ba c
  exact ⟨c1, He.eqO_ok c2, c3, c4⟩
def methB (K : PySem.W.Frag) (C : Addr) (m : Str) : Bool := eqO (PySem.W.findIn K (.ref C) m) (some (some (.ref (ma K C m)))) && (PySem.W.isFn K (.ref (ma K C m)) && PySem.W.keepIn K (.ref (ma K C m)))
theorem methB_ok {K : PySem.W.Frag} {C : Addr} {m : Str} (c : methB K C m = true) : Meth K C m (ma K C m) := by
  obtain ⟨c1, c⟩ := He.ba c
  obtain ⟨c2, c3⟩ := He.ba c
  exact ⟨He.eqO_ok c1, c2, c3⟩
/-- a constant of a class: its value, read at the instance and at the class -/
def conV (K : PySem.W.Frag) (C : Addr) (f : Str) (v : V) : Bool := match PySem.W.findIn K (.ref C) f with
  | some (some u) => relB v u && (eqO (PySem.W.specialIn K u "__get__") (some none) && (match PySem.W.findCls K (.ref C) (.type "type") f with
    | some (.val u') => decide (u' = u)
    | _ => false))
  | _ => false
theorem conV_ok {K : PySem.W.Frag} {C : Addr} {f : Str} {v : V} (h : conV K C f v = true) : ∃ u, PySem.W.findIn K (.ref C) f = some (some u) ∧ RelV v u ∧ PySem.W.specialIn K u "__get__" = some none ∧ PySem.W.findCls K (.ref C) (.type "type") f = some (.val u) := by
  unfold conV at h
  cases e : PySem.W.findIn K (.ref C) f with
  | none =>
    rw [e] at h
    cases h
  | some o =>
    rw [e] at h
    cases o with
    | none => cases h
    | some u =>
      obtain ⟨h1, h⟩ := He.ba (show (relB v u && (eqO (PySem.W.specialIn K u "__get__") (some none) && (match PySem.W.findCls K (.ref C) (.type "type") f with
        | some (.val u') => decide (u' = u)
        | _ => false))) = true from h)
      obtain ⟨h2, h3⟩ := He.ba h
      refine ⟨u, rfl, He.relB_ok h1, He.eqO_ok h2, ?_⟩
      cases q : PySem.W.findCls K (.ref C) (.type "type") f with
      | none =>
        rw [q] at h3
        cases h3
      | some z =>
        rw [q] at h3
        cases z with
        | val u' =>
          have e : u' = u := of_decide_eq_true h3
          rw [e]
        | get _ _ _ _ => cases h3
theorem conS {K : PySem.W.Frag} {C : Addr} {f z : Str} (h : conV K C f (.str z) = true) : ∃ t, PySem.W.findIn K (.ref C) f = some (some (.str z t)) ∧ PySem.W.specialIn K (.str z t) "__get__" = some none ∧ PySem.W.findCls K (.ref C) (.type "type") f = some (.val (.str z t)) := by
  obtain ⟨u, a, ⟨t, rfl⟩, b, c⟩ := conV_ok h
  exact ⟨t, a, b, c⟩
/-- the class is read as classes are -/
def readB (K : PySem.W.Frag) (C : Addr) : Bool := PySem.W.readsIn K C (.type "type") && eqO (PySem.W.specialIn K (.ref C) "__getattribute__") (some (some (.builtin "type.__getattribute__")))
/-- __class__ is told of its instances -/
def kindB (K : PySem.W.Frag) (C : Addr) : Bool := eqO (PySem.W.findIn K (.ref C) "__class__") (some (some (.builtin "object.__class__"))) && (decide (PySem.W.mroIn K C (.type "object") = some true) && (eqO (PySem.W.specialIn K (.builtin "object.__class__") "__get__") (some (some (.builtin "getset_descriptor.__get__"))) && decide (PySem.W.takesIn K (.builtin "object.__class__") = some true)))
theorem kindB_ok {K : PySem.W.Frag} {C : Addr} (c : kindB K C = true) : PySem.W.findIn K (.ref C) "__class__" = some (some (.builtin "object.__class__")) ∧ PySem.W.mroIn K C (.type "object") = some true ∧ PySem.W.specialIn K (.builtin "object.__class__") "__get__" = some (some (.builtin "getset_descriptor.__get__")) ∧ PySem.W.takesIn K (.builtin "object.__class__") = some true := by
  obtain ⟨c1, c⟩ := He.ba c
  obtain ⟨c2, c⟩ := He.ba c
  obtain ⟨c3, c4⟩ := He.ba c
  exact ⟨He.eqO_ok c1, of_decide_eq_true c2, He.eqO_ok c3, of_decide_eq_true c4⟩
def kitB (K : PySem.W.Frag) (a b : Addr) (r : Bool) : Bool := decide (PySem.W.kitOne K (.ref a) (.ref b) = some r)
theorem kitB_ok {K : PySem.W.Frag} {a b : Addr} {r : Bool} (c : kitB K a b r = true) : PySem.W.kitOne K (.ref a) (.ref b) = some r := of_decide_eq_true c
/-! ### the Hook -/
abbrev AlX : Type := (Bool × List FnV) × List (Option (List (Option (Str × Int))))
def chk (fa : List (PySem.W.Frag → Bool)) (fn : List FnP) (K : PySem.W.Frag) : Bool := (fa.all fun f => f K) && fn.all fun d => d.ok K
def obsX (fa : List (PySem.W.Frag → Bool)) (fn : List FnP) (ts : List He.Tab) (K : PySem.W.Frag) : AlX := ((chk fa fn K, fn.map fun d => fnV K (d.at_ K)), ts.map fun t => He.dicW K (t.1 K))
def valX (fn : List FnP) (ts : List He.Tab) (w : World) : AlX := ((true, fn.map FnP.val), ts.map fun t => some (He.keysIn w.params t.2))
def SaysX (fa : List (PySem.W.Frag → Bool)) (fn : List FnP) (ts : List He.Tab) (w : World) (K : PySem.W.Frag) : Prop := obsX fa fn ts K = valX fn ts w
/-- what is looked at, off the tree -/
def obX (fa : List (PySem.W.Frag → Bool)) (fn : List FnP) (ts : List He.Tab) (s : PySem.W.SharedT) : AlX := frU (HandSHeadRun.getT s) s.n 0 [] (obsX fa fn ts)
section
variable {fa : List (PySem.W.Frag → Bool)} {fn : List FnP} {ts : List He.Tab} {w : World} {K : PySem.W.Frag}
theorem SaysX.chk_ (c : SaysX fa fn ts w K) : chk fa fn K = true := congrArg (fun z : AlX => z.1.1) c
theorem SaysX.fact (c : SaysX fa fn ts w K) (i : Nat) {f : PySem.W.Frag → Bool} (h : fa[i]? = some f := by rfl) : f K = true := List.all_eq_true.mp (He.ba c.chk_).1 f (List.mem_of_getElem? h)
theorem SaysX.def_ (c : SaysX fa fn ts w K) (i : Nat) {d : FnP} (h : fn[i]? = some d := by rfl) : FnAt K d.name d.qual d.st (d.at_ K) ∧ PySem.W.keepIn K (.ref (d.at_ K)) = true := by
  have e : fn.map (fun d => fnV K (d.at_ K)) = fn.map FnP.val := congrArg (fun z : AlX => z.1.2) c
  have e2 : (fn.map fun d => fnV K (d.at_ K))[i]? = (fn.map FnP.val)[i]? := by rw [e]
  rw [List.getElem?_map, List.getElem?_map, h] at e2
  exact fn_ok (Option.some.inj e2) (List.all_eq_true.mp (He.ba c.chk_).2 d (List.mem_of_getElem? h))
theorem SaysX.tab (c : SaysX fa fn ts w K) (i : Nat) {t : He.Tab} (h : ts[i]? = some t := by rfl) : He.dicW K (t.1 K) = some (He.keysIn w.params t.2) := by
  have e : ts.map (fun t => He.dicW K (t.1 K)) = ts.map fun t => some (He.keysIn w.params t.2) := congrArg (fun z : AlX => z.2) c
  have e2 : (ts.map fun t => He.dicW K (t.1 K))[i]? = (ts.map fun t => some (He.keysIn w.params t.2))[i]? := by rw [e]
  rw [List.getElem?_map, List.getElem?_map, h] at e2
  exact Option.some.inj e2
end
/-! ### the facts in chunks, each looked at by a run of its own -/
structure Ck where
  fa : List (PySem.W.Frag → Bool)
  fn : List FnP
  ts : List He.Tab
def Ck.ob (c : Ck) (s : PySem.W.SharedT) : AlX := obX c.fa c.fn c.ts s
def Ck.Says (c : Ck) (w : World) (K : PySem.W.Frag) : Prop := SaysX c.fa c.fn c.ts w K
open HandSHeadRun PySem.W PySem.Calls PyProof.Rows in
/-- the run's first equation: the looks, the view -/
def Run0 (r : PySem.W.OpenRow) (q : Program) (M : Nat) (loose : List PySem.Str) (w : World) : Prop :=
  ∀ os : OsState, (endF (stepQ (denQ tabQ) r.prog w) M r.prog w os).map (fun s => (looksF r.prog (boot_heap w.params) s.abs, seenQ q loose (importedModules r.prog.main.body) (fun s => PySem.W.xlAt q [] s && PySem.W.recOk r.toRowW.records s) s.abs)) = some (true, PySem.W.openGood q loose)
end Hk
/-! the head by one kernel run, with tables of code objects (empty, not in K) -/
namespace Hk
open PySem PySem.Spec PyProof.Rows L2
open He (emptyTab)
/-- what is tracked: all but the empty tables -/
def noT (l : List (Addr × Obj)) : PySem.W.Frag := l.filter fun q => !emptyTab q.2
def allT (g : Addr → Option Obj) (n : Nat) : PySem.W.Frag := noT (allU g n 0 [])
theorem allT_mem {g : Addr → Option Obj} {n : Nat} {a : Addr} {o : Obj} (e : (allT g n).lookup a = some o) : g a = some o ∧ emptyTab o = false := by
  have m : (a, o) ∈ noT (allU g n 0 []) := lookup_at e
  obtain ⟨m1, m2⟩ := List.mem_filter.mp m
  refine ⟨allU_mem (g := g) (acc := []) (fun _ z => by cases z) (a, o) m1, ?_⟩
  have m3 : (!emptyTab o) = true := m2
  cases q : emptyTab o with
  | true =>
    rw [q] at m3
    cases m3
  | false => rfl
theorem allT_in {h : Heap} {n : Nat} : (allT h.get? n).In h := fun a o e => (allT_mem e).1
theorem allT_none {g : Addr → Option Obj} {n : Nat} {a : Addr} {o : Obj} (h : g a = some o) (ht : emptyTab o = true) : (allT g n).lookup a = none := by
  cases e : (allT g n).lookup a with
  | none => rfl
  | some u =>
    obtain ⟨h1, h2⟩ := allT_mem e
    rw [h] at h1
    rw [← Option.some.inj h1, ht] at h2
    cases h2
abbrev TT : Type := PySem.W.Frag → List (Addr × Addr)
def tabsB (g : Addr → Option Obj) (tt : TT) (K : PySem.W.Frag) : Bool := (tt K).all fun p => PySem.W.codeHdIn K p.1 p.2 && (match g p.2 with
  | some o => emptyTab o
  | none => false)
structure SaysT (cs : List Ck) (tt : TT) (w : World) (h : Heap) (K : PySem.W.Frag) : Prop where
  t : ∀ c ∈ cs, c.Says w K
  hd : ∀ p ∈ tt K, PySem.W.codeHdIn K p.1 p.2 = true
  out : ∀ p ∈ tt K, K.lookup p.2 = none
  empty : ∀ p ∈ tt K, h.get? p.2 = some { cls := .none, data := .fields #[] }
theorem saysT_of {cs : List Ck} {tt : TT} {w : World} {h : Heap} {n : Nat} (e1 : ∀ c ∈ cs, c.Says w (allT h.get? n)) (e2 : tabsB h.get? tt (allT h.get? n) = true) : SaysT cs tt w h (allT h.get? n) := by
  have key : ∀ p ∈ tt (allT h.get? n), PySem.W.codeHdIn (allT h.get? n) p.1 p.2 = true ∧ ∃ o, h.get? p.2 = some o ∧ emptyTab o = true := fun p hp => by
    obtain ⟨h3, h4⟩ := He.ba (List.all_eq_true.mp e2 p hp)
    refine ⟨h3, ?_⟩
    cases q : h.get? p.2 with
    | none =>
      rw [q] at h4
      cases h4
    | some o =>
      rw [q] at h4
      exact ⟨o, rfl, h4⟩
  exact ⟨e1, fun p hp => (key p hp).1, fun p hp => by
    obtain ⟨_, o, q, z⟩ := key p hp
    exact allT_none q z, fun p hp => by
    obtain ⟨_, o, q, z⟩ := key p hp
    rw [q, He.emptyTab_eq z]⟩
def hookT (cs : List Ck) (tt : TT) : PySem.W.Hook where
  α := List AlX × Bool
  obs := fun s => (cs.map fun c => obsX c.fa c.fn c.ts (allT s.heap.get? s.heap.objs.size), tabsB s.heap.get? tt (allT s.heap.get? s.heap.objs.size))
  val := fun w => (cs.map fun c => valX c.fn c.ts w, true)
  says := fun w h => ∃ K : PySem.W.Frag, K.In h ∧ SaysT cs tt w h K
  of := fun _ _ e => ⟨_, allT_in, saysT_of (List.map_inj_left.mp (Prod.mk.inj e).1) (Prod.mk.inj e).2⟩
  keeps := fun _ _ _ ⟨K, hK, c⟩ k => ⟨K, PySem.W.Frag.In.keeps hK k, ⟨c.t, c.hd, c.out, fun p hp => k _ _ (c.empty p hp)⟩⟩
/-- what is looked at, off the tree -/
def obT (c : Ck) (s : PySem.W.SharedT) : AlX := frU (HandSHeadRun.getT s) s.n 0 [] fun l => obsX c.fa c.fn c.ts (noT l)
def obTab (tt : TT) (s : PySem.W.SharedT) : Bool := frU (HandSHeadRun.getT s) s.n 0 [] fun l => tabsB (HandSHeadRun.getT s) tt (noT l)
theorem get_eq (s : PySem.W.SharedT) : HandSHeadRun.getT s = s.abs.heap.get? ∧ s.abs.heap.objs.size = s.n := ⟨funext (HandSHeadRun.getT_eq s), PySem.W.absHeap_size s.tree s.n s.life⟩
theorem obT_eq {c : Ck} (s : PySem.W.SharedT) : obT c s = obsX c.fa c.fn c.ts (allT s.abs.heap.get? s.abs.heap.objs.size) := by
  unfold obT
  rw [frU_eq, (get_eq s).2, (get_eq s).1]
  rfl
theorem obTab_eq {tt : TT} (s : PySem.W.SharedT) : obTab tt s = tabsB s.abs.heap.get? tt (allT s.abs.heap.get? s.abs.heap.objs.size) := by
  unfold obTab
  rw [frU_eq, (get_eq s).2, (get_eq s).1]
  rfl
def obTs (cs : List Ck) (tt : TT) (s : PySem.W.SharedT) : List AlX × Bool := (cs.map fun c => obT c s, obTab tt s)
theorem obTs_eq {cs : List Ck} {tt : TT} (s : PySem.W.SharedT) : obTs cs tt s = (hookT cs tt).obs s.abs := Prod.ext (List.map_congr_left fun c _ => obT_eq s) (obTab_eq s)
theorem map_splitT {σ α β γ δ ε : Type} {o : Option σ} {a : σ → α} {b : σ → β} {g : δ → σ → γ} {t : σ → ε} {v : δ → γ} {va : α} {vb : β} {vt : ε} {cs : List δ} (e0 : o.map (fun s => (a s, b s)) = some (va, vb)) (es : ∀ c ∈ cs, o.map (g c) = some (v c)) (et : o.map t = some vt) :
    o.map (fun s => (a s, b s, (cs.map fun c => g c s, t s))) = some (va, vb, (cs.map v, vt)) := by
  cases o with
  | none => cases e0
  | some s =>
    obtain ⟨h1, h2⟩ := Prod.mk.inj (Option.some.inj e0)
    show some (a s, b s, (cs.map fun c => g c s, t s)) = _
    rw [h1, h2, List.map_congr_left fun c hc => Option.some.inj (es c hc), Option.some.inj et]
open HandSHeadRun PySem.W PySem.Calls PyProof.Rows in
def RunT (r : PySem.W.OpenRow) (M : Nat) (c : Ck) (w : World) : Prop := ∀ os : OsState, (endF (stepQ (denQ tabQ) r.prog w) M r.prog w os).map (obT c) = some (valX c.fn c.ts w)
open HandSHeadRun PySem.W PySem.Calls PyProof.Rows in
def RunTab (r : PySem.W.OpenRow) (M : Nat) (tt : TT) (w : World) : Prop := ∀ os : OsState, (endF (stepQ (denQ tabQ) r.prog w) M r.prog w os).map (obTab tt) = some true
open HandSHeadRun PySem.W PySem.Calls PyProof.Rows in
theorem runT_of {r : PySem.W.OpenRow} {q : Program} {M : Nat} {loose : List PySem.Str} {cs : List Ck} {tt : TT} {w : World} (e0 : Run0 r q M loose w) (es : ∀ c ∈ cs, RunT r M c w) (et : RunTab r M tt w) : HandSHeadRun.RunEq r q (hookT cs tt) (obTs cs tt) M loose w :=
  fun os => map_splitT (δ := Ck) (g := obT) (v := fun c => valX c.fn c.ts w) (cs := cs) (e0 os) (fun c hc => es c hc os) (et os)
end Hk
/-! own exceptions, told as Bools -/
namespace Hk
open PySem PySem.Spec PyProof.Rows L2
open He (eqO)
def exgB (K : PySem.W.Frag) (C fI : Addr) (bm : List Value) (newId : String) : Bool := PySem.W.excInitIn K C bm newId && (PySem.W.excOver K C bm && (eqO (PySem.W.findIn K (.ref C) "__setattr__") (some (some (.builtin "object.__setattr__"))) && (eqO (PySem.W.findIn K (.ref C) "__init__") (some (some (.ref fI))) &&
  (decide (PySem.W.typeIn K (.ref fI) = some (.type "function")) && (PySem.W.keepIn K (.ref C) && (eqO (PySem.W.findIn K (.ref C) "__getattribute__") (some (some (.builtin "BaseException.__getattribute__"))) && (eqO (PySem.W.findIn K (.ref C) "__getattr__") (some none) &&
  (decide (PySem.W.subIn K (.ref C) (.type "BaseException") = some true) && (PySem.W.hasDictIn K C && (kindB K C && decide (PySem.W.typeIn K (.ref C) = some (.type "type"))))))))))))
theorem exgB_ok {K : PySem.W.Frag} {C fI : Addr} {bm : List Value} {newId : String} (h : exgB K C fI bm newId = true) : PySem.W.excInitIn K C bm newId = true ∧ PySem.W.excOver K C bm = true ∧ PySem.W.findIn K (.ref C) "__setattr__" = some (some (.builtin "object.__setattr__")) ∧ PySem.W.findIn K (.ref C) "__init__" = some (some (.ref fI)) ∧
    PySem.W.typeIn K (.ref fI) = some (.type "function") ∧ PySem.W.keepIn K (.ref C) = true ∧ PySem.W.findIn K (.ref C) "__getattribute__" = some (some (.builtin "BaseException.__getattribute__")) ∧ PySem.W.findIn K (.ref C) "__getattr__" = some none ∧
    PySem.W.subIn K (.ref C) (.type "BaseException") = some true ∧ PySem.W.hasDictIn K C = true ∧ kindB K C = true ∧ PySem.W.typeIn K (.ref C) = some (.type "type") := by
  obtain ⟨a1, h⟩ := He.ba h
  obtain ⟨a2, h⟩ := He.ba h
  obtain ⟨a3, h⟩ := He.ba h
  obtain ⟨a4, h⟩ := He.ba h
  obtain ⟨a5, h⟩ := He.ba h
  obtain ⟨a6, h⟩ := He.ba h
  obtain ⟨a7, h⟩ := He.ba h
  obtain ⟨a8, h⟩ := He.ba h
  obtain ⟨a9, h⟩ := He.ba h
  obtain ⟨a10, h⟩ := He.ba h
  obtain ⟨a11, a12⟩ := He.ba h
  exact ⟨a1, a2, He.eqO_ok a3, He.eqO_ok a4, of_decide_eq_true a5, a6, He.eqO_ok a7, He.eqO_ok a8, of_decide_eq_true a9, a10, a11, of_decide_eq_true a12⟩
end Hk
/-! more facts by Bools: tuples that the top has written, values of a dict that stand for objects, == and != of a class -/
namespace Hk
open PySem PySem.Spec PyProof.Rows L2
open He (ga ma eqO relB FnV)
def relL : List V → List Value → Bool
  | [], [] => true
  | v :: vs, u :: us => relB v u && relL vs us
  | _, _ => false
theorem relL_ok : ∀ {vs : List V} {us : List Value}, relL vs us = true → Vals vs us
  | [], [], _ => .nil
  | v :: vs, u :: us, h => by
    obtain ⟨h1, h2⟩ := He.ba (show (relB v u && relL vs us) = true from h)
    exact .cons (He.relB_ok h1) (relL_ok h2)
  | [], u :: us, h => by cases h
  | v :: vs, [], h => by cases h
def tupB (K : PySem.W.Frag) (a : Addr) (vs : List V) : Bool := match K.lookup a with
  | some ⟨.type c, _, .seq its _, _⟩ => decide (c = "tuple") && (decide (its.size ≤ 100) && relL vs its.toList)
  | _ => false
theorem tupB_ok {K : PySem.W.Frag} {a : Addr} {vs : List V} (h : tupB K a vs = true) (H : Hp) : SqT K H a vs := by
  unfold tupB at h
  cases e : K.lookup a with
  | none =>
    rw [e] at h
    cases h
  | some o =>
    obtain ⟨oc, od, dt, osl⟩ := o
    rw [e] at h
    cases oc with
    | type c =>
      cases dt with
      | seq its n =>
        obtain ⟨h1, h2⟩ := He.ba (show (decide (c = "tuple") && (decide (its.size ≤ 100) && relL vs its.toList)) = true from h)
        obtain ⟨h2, h3⟩ := He.ba h2
        have hc : c = "tuple" := of_decide_eq_true h1
        subst hc
        exact .inr ⟨_, its, n, e, rfl, rfl, Nat.le_trans (of_decide_eq_true h2) (by decide), relL_ok h3⟩
      | _ => cases h
    | _ => cases h
/-- where the value at a name of a dict stands -/
def na (K : PySem.W.Frag) (D : Addr) (x : Str) : Addr := match PySem.W.nsIn K D x with
  | some (some (.ref a)) => a
  | _ => 0
end Hk
namespace Hd
open PySem PySem.Spec PyProof.Rows L2
abbrev R : PySem.W.OpenRow := PySem.W.OpenLaw.row PySem.Challenge.rw_tarhouse_k39_long_and_odd_names
abbrev qv : Program := PySem.W.view R.prog [72]
def tS (i : Nat) : Stmt := PySem.Challenge.pw_tarhouse_k39_long_and_odd_names.main.body.getD i (.Pass ⟨0, 0, 0, 0⟩)
def names0 : List PySem.Str := ["_wall", "copied", "NoBlob", "NoData", "NoHouse", "NoName", "NoMode", "NoSize", "NoPieces", "NoTime", "Refused", "is_integer", "is_integer_within", "NAME_CHARACTERS", "MOST_CHARACTERS"]
def names1 : List PySem.Str := ["NO_PARTS", "MOST_BYTES", "MOST_PIECES", "LAST_MODE", "LAST_TIME", "is_name", "is_path", "is_data", "is_size", "is_mode", "is_time", "are_pieces", "is_piece", "are_spans", "check_name"]
def names2 : List PySem.Str := ["check_data", "check_pieces", "check_mode_and_time", "Member", "File", "Sparse", "Directory", "Symlink", "Link", "target_of", "paths_above", "directory_of", "House", "filled", "are_entries"]
def names3 : List PySem.Str := ["is_entry", "is_thing", "stands_right", "kind_at", "MADE", "Tree", "thing_of", "unpacked", "unpack", "refusal", "blob", "is_row_of_bytes", "_law_source", "_law_draw", "_law_name"]
def names4 : List PySem.Str := ["_law_is_path", "_law_told"]
def names : List PySem.Str := names0 ++ (names1 ++ (names2 ++ (names3 ++ (names4))))
abbrev fn_0 : Hk.FnP := ⟨fun K => (He.ga K "law"), "law", "law", tS 72⟩
abbrev fn_1 : Hk.FnP := ⟨fun K => (He.ga K "is_integer"), "is_integer", "is_integer", tS 14⟩
abbrev fn_2 : Hk.FnP := ⟨fun K => (He.ga K "is_integer_within"), "is_integer_within", "is_integer_within", tS 15⟩
abbrev fn_3 : Hk.FnP := ⟨fun K => (He.ga K "is_row_of_bytes"), "is_row_of_bytes", "is_row_of_bytes", tS 65⟩
abbrev fn_4 : Hk.FnP := ⟨fun K => (He.ga K "blob"), "blob", "blob", tS 64⟩
abbrev fn_5 : Hk.FnP := ⟨fun K => (He.ga K "is_name"), "is_name", "is_name", tS 24⟩
abbrev fn_6 : Hk.FnP := ⟨fun K => (He.ga K "_law_source"), "_law_source", "_law_source", tS 67⟩
abbrev fn_7 : Hk.FnP := ⟨fun K => (He.ga K "_law_draw"), "_law_draw", "_law_draw", tS 68⟩
abbrev fn_8 : Hk.FnP := ⟨fun K => (He.ga K "check_name"), "check_name", "check_name", tS 33⟩
abbrev fn_9 : Hk.FnP := ⟨fun K => (He.ga K "is_data"), "is_data", "is_data", tS 26⟩
abbrev fn_10 : Hk.FnP := ⟨fun K => (He.ga K "check_data"), "check_data", "check_data", tS 34⟩
abbrev fn_11 : Hk.FnP := ⟨fun K => (He.ga K "is_size"), "is_size", "is_size", tS 27⟩
abbrev fn_12 : Hk.FnP := ⟨fun K => (He.ga K "is_mode"), "is_mode", "is_mode", tS 28⟩
abbrev fn_13 : Hk.FnP := ⟨fun K => (He.ga K "is_time"), "is_time", "is_time", tS 29⟩
abbrev fn_14 : Hk.FnP := ⟨fun K => (He.ga K "check_mode_and_time"), "check_mode_and_time", "check_mode_and_time", tS 36⟩
abbrev fn_15 : Hk.FnP := ⟨fun K => (He.ga K "is_piece"), "is_piece", "is_piece", tS 31⟩
abbrev fn_16 : Hk.FnP := ⟨fun K => (He.ga K "are_spans"), "are_spans", "are_spans", tS 32⟩
abbrev fn_17 : Hk.FnP := ⟨fun K => (He.ga K "are_pieces"), "are_pieces", "are_pieces", tS 30⟩
abbrev fn_18 : Hk.FnP := ⟨fun K => (He.ga K "check_pieces"), "check_pieces", "check_pieces", tS 35⟩
abbrev fn_19 : Hk.FnP := ⟨fun K => (He.ga K "target_of"), "target_of", "target_of", tS 43⟩
abbrev fn_20 : Hk.FnP := ⟨fun K => (He.ga K "paths_above"), "paths_above", "paths_above", tS 45⟩
abbrev fn_21 : Hk.FnP := ⟨fun K => (He.ga K "directory_of"), "directory_of", "directory_of", tS 46⟩
abbrev fn_22 : Hk.FnP := ⟨fun K => (He.ga K "is_path"), "is_path", "is_path", tS 25⟩
abbrev fn_23 : Hk.FnP := ⟨fun K => (He.ga K "kind_at"), "kind_at", "kind_at", tS 54⟩
abbrev fn_24 : Hk.FnP := ⟨fun K => (He.ga K "filled"), "filled", "filled", tS 49⟩
abbrev fn_25 : Hk.FnP := ⟨fun K => (He.ga K "thing_of"), "thing_of", "thing_of", tS 58⟩
abbrev fn_26 : Hk.FnP := ⟨fun K => (He.ga K "refusal"), "refusal", "refusal", tS 62⟩
abbrev fn_27 : Hk.FnP := ⟨fun K => (He.ga K "copied"), "copied", "copied", tS 2⟩
abbrev fn_28 : Hk.FnP := ⟨fun K => (He.ga K "unpack"), "unpack", "unpack", tS 61⟩
abbrev fn_29 : Hk.FnP := ⟨fun K => (He.ga K "unpacked"), "unpacked", "unpacked", tS 60⟩
abbrev fn_30 : Hk.FnP := ⟨fun K => (He.ga K "_law_told"), "_law_told", "_law_told", tS 71⟩
abbrev fn_31 : Hk.FnP := ⟨fun K => (He.ga K "_law_name"), "_law_name", "_law_name", tS 69⟩
abbrev fn_32 : Hk.FnP := ⟨fun K => (He.ga K "_law_is_path"), "_law_is_path", "_law_is_path", tS 70⟩
abbrev fn_33 : Hk.FnP := ⟨fun K => (He.ma K (He.ga K "File") "__init__"), "__init__", "File.__init__", (inClass (tS 38) 1)⟩
abbrev fn_34 : Hk.FnP := ⟨fun K => (He.ma K (He.ga K "Sparse") "__init__"), "__init__", "Sparse.__init__", (inClass (tS 39) 1)⟩
abbrev fn_35 : Hk.FnP := ⟨fun K => (He.ma K (He.ga K "Directory") "__init__"), "__init__", "Directory.__init__", (inClass (tS 40) 1)⟩
abbrev fn_36 : Hk.FnP := ⟨fun K => (He.ma K (He.ga K "Symlink") "__init__"), "__init__", "Symlink.__init__", (inClass (tS 41) 1)⟩
abbrev fn_37 : Hk.FnP := ⟨fun K => (He.ma K (He.ga K "Link") "__init__"), "__init__", "Link.__init__", (inClass (tS 42) 1)⟩
abbrev fn_38 : Hk.FnP := ⟨fun K => (He.ma K (He.ga K "House") "__init__"), "__init__", "House.__init__", (inClass (tS 48) 0)⟩
abbrev fn_39 : Hk.FnP := ⟨fun K => (He.ma K (He.ga K "Tree") "__init__"), "__init__", "Tree.__init__", (inClass (tS 57) 0)⟩
abbrev fn_40 : Hk.FnP := ⟨fun K => (He.ma K (He.ga K "House") "entries"), "entries", "House.entries", (inClass (tS 48) 4)⟩
abbrev fn_41 : Hk.FnP := ⟨fun K => (He.ma K (He.ga K "File") "content"), "content", "File.content", (inClass (tS 38) 4)⟩
abbrev fn_42 : Hk.FnP := ⟨fun K => (He.ma K (He.ga K "Sparse") "content"), "content", "Sparse.content", (inClass (tS 39) 4)⟩
abbrev fn_43 : Hk.FnP := ⟨fun K => (He.ma K (He.ga K "Tree") "house"), "house", "Tree.house", (inClass (tS 57) 1)⟩
abbrev fn_44 : Hk.FnP := ⟨fun K => (He.ma K (He.ga K "Tree") "refusal_at"), "refusal_at", "Tree.refusal_at", (inClass (tS 57) 2)⟩
abbrev fn_45 : Hk.FnP := ⟨fun K => (He.ma K (He.ga K "Tree") "put"), "put", "Tree.put", (inClass (tS 57) 3)⟩
abbrev fn_46 : Hk.FnP := ⟨fun K => (He.ma K (He.ga K "Refused") "__init__"), "__init__", "Refused.__init__", (inClass (tS 12) 0)⟩
def fa0_0 : List (PySem.W.Frag → Bool) := [Hk.refV "law", Hk.refV "is_integer", Hk.refV "is_integer_within", Hk.refV "is_row_of_bytes", Hk.refV "blob", Hk.refV "is_name", Hk.refV "_law_source", Hk.refV "_law_draw", Hk.refV "check_name", Hk.refV "is_data"]
def fa0_1 : List (PySem.W.Frag → Bool) := [Hk.refV "check_data", Hk.refV "is_size", Hk.refV "is_mode", Hk.refV "is_time", Hk.refV "check_mode_and_time", Hk.refV "is_piece", Hk.refV "are_spans", Hk.refV "are_pieces", Hk.refV "check_pieces", Hk.refV "target_of"]
def fa0_2 : List (PySem.W.Frag → Bool) := [Hk.refV "paths_above", Hk.refV "directory_of", Hk.refV "is_path", Hk.refV "kind_at", Hk.refV "filled", Hk.refV "thing_of", Hk.refV "refusal", Hk.refV "copied", Hk.refV "unpack", Hk.refV "unpacked"]
def fa0_3 : List (PySem.W.Frag → Bool) := [Hk.refV "_law_told", Hk.refV "_law_name", Hk.refV "_law_is_path", fun K => Hk.nsV K mainGlobals "MOST_CHARACTERS" (.int (250)), fun K => Hk.nsV K mainGlobals "NAME_CHARACTERS" (.str ("abcdefghijklmnopqrstuvwxyz0123456789._-/")), fun K => Hk.nsV K mainGlobals "MOST_BYTES" (.int (4096)), fun K => Hk.nsV K mainGlobals "LAST_MODE" (.int (4095)), fun K => Hk.nsV K mainGlobals "LAST_TIME" (.int (8589934591)), fun K => Hk.nsV K mainGlobals "MOST_PIECES" (.int (50)), Hk.refV "NO_PARTS"]
def fa0_4 : List (PySem.W.Frag → Bool) := [Hk.refV "MADE", Hk.refV "Member", fun K => Hk.conV K (He.ga K "File") "KIND" (.str "file"), Hk.refV "File", fun K => Hk.clsB K (He.ga K "File"), fun K => Hk.mkB K (He.ga K "File"), fun K => Hk.kindB K (He.ga K "File"), fun K => Hk.kitB K (He.ga K "File") (He.ga K "Member") true, fun K => Hk.readB K (He.ga K "File"), fun K => Hk.noB K (He.ga K "File") ["name", "mode", "time", "data"]]
def fa0_5 : List (PySem.W.Frag → Bool) := [fun K => Hk.kwsV K (He.ma K (He.ga K "File") "__init__") [("mode", .int 420), ("time", .int 0)], fun K => Hk.conV K (He.ga K "Sparse") "KIND" (.str "sparse"), Hk.refV "Sparse", fun K => Hk.clsB K (He.ga K "Sparse"), fun K => Hk.mkB K (He.ga K "Sparse"), fun K => Hk.kindB K (He.ga K "Sparse"), fun K => Hk.kitB K (He.ga K "Sparse") (He.ga K "Member") true, fun K => Hk.readB K (He.ga K "Sparse"), fun K => Hk.noB K (He.ga K "Sparse") ["name", "mode", "time", "size", "pieces"], fun K => Hk.kwsV K (He.ma K (He.ga K "Sparse") "__init__") [("mode", .int 420), ("time", .int 0)]]
def fa0_6 : List (PySem.W.Frag → Bool) := [fun K => Hk.conV K (He.ga K "Directory") "KIND" (.str "directory"), Hk.refV "Directory", fun K => Hk.clsB K (He.ga K "Directory"), fun K => Hk.mkB K (He.ga K "Directory"), fun K => Hk.kindB K (He.ga K "Directory"), fun K => Hk.kitB K (He.ga K "Directory") (He.ga K "Member") true, fun K => Hk.readB K (He.ga K "Directory"), fun K => Hk.noB K (He.ga K "Directory") ["name", "mode", "time"]]
def fa0_ : List (PySem.W.Frag → Bool) := fa0_0 ++ (fa0_1 ++ (fa0_2 ++ (fa0_3 ++ (fa0_4 ++ (fa0_5 ++ (fa0_6))))))
def fa1_0 : List (PySem.W.Frag → Bool) := [fun K => Hk.kwsV K (He.ma K (He.ga K "Directory") "__init__") [("mode", .int 493), ("time", .int 0)], fun K => Hk.conV K (He.ga K "Symlink") "KIND" (.str "symlink"), Hk.refV "Symlink", fun K => Hk.clsB K (He.ga K "Symlink"), fun K => Hk.mkB K (He.ga K "Symlink"), fun K => Hk.kindB K (He.ga K "Symlink"), fun K => Hk.kitB K (He.ga K "Symlink") (He.ga K "Member") true, fun K => Hk.readB K (He.ga K "Symlink"), fun K => Hk.noB K (He.ga K "Symlink") ["name", "mode", "time", "target"], fun K => Hk.kwsV K (He.ma K (He.ga K "Symlink") "__init__") [("mode", .int 511), ("time", .int 0)]]
def fa1_1 : List (PySem.W.Frag → Bool) := [fun K => Hk.conV K (He.ga K "Link") "KIND" (.str "link"), Hk.refV "Link", fun K => Hk.clsB K (He.ga K "Link"), fun K => Hk.mkB K (He.ga K "Link"), fun K => Hk.kindB K (He.ga K "Link"), fun K => Hk.kitB K (He.ga K "Link") (He.ga K "Member") true, fun K => Hk.readB K (He.ga K "Link"), fun K => Hk.noB K (He.ga K "Link") ["name", "mode", "time", "target"], fun K => Hk.kwsV K (He.ma K (He.ga K "Link") "__init__") [("mode", .int 420), ("time", .int 0)], fun K => Hk.kitB K (He.ga K "File") (He.ga K "File") true]
def fa1_2 : List (PySem.W.Frag → Bool) := [fun K => Hk.kitB K (He.ga K "File") (He.ga K "Sparse") false, fun K => Hk.kitB K (He.ga K "File") (He.ga K "Symlink") false, fun K => Hk.kitB K (He.ga K "File") (He.ga K "Link") false, fun K => Hk.kitB K (He.ga K "Sparse") (He.ga K "File") false, fun K => Hk.kitB K (He.ga K "Sparse") (He.ga K "Sparse") true, fun K => Hk.kitB K (He.ga K "Sparse") (He.ga K "Symlink") false, fun K => Hk.kitB K (He.ga K "Sparse") (He.ga K "Link") false, fun K => Hk.kitB K (He.ga K "Directory") (He.ga K "File") false, fun K => Hk.kitB K (He.ga K "Directory") (He.ga K "Sparse") false, fun K => Hk.kitB K (He.ga K "Directory") (He.ga K "Symlink") false]
def fa1_3 : List (PySem.W.Frag → Bool) := [fun K => Hk.kitB K (He.ga K "Directory") (He.ga K "Link") false, fun K => Hk.kitB K (He.ga K "Symlink") (He.ga K "File") false, fun K => Hk.kitB K (He.ga K "Symlink") (He.ga K "Sparse") false, fun K => Hk.kitB K (He.ga K "Symlink") (He.ga K "Symlink") true, fun K => Hk.kitB K (He.ga K "Link") (He.ga K "File") false, fun K => Hk.kitB K (He.ga K "Link") (He.ga K "Sparse") false, fun K => Hk.kitB K (He.ga K "Link") (He.ga K "Symlink") false, fun K => Hk.kitB K (He.ga K "Link") (He.ga K "Link") true, fun K => Hk.tupB K (He.ga K "NO_PARTS") [.str "", .str ".", .str ".."], fun K => Hk.tupB K (He.ga K "MADE") [.str "directory", .int 493, .int 0]]
def fa1_4 : List (PySem.W.Frag → Bool) := [fun K => Hk.kitB K (He.ga K "Directory") (He.ga K "Directory") true, fun K => Hk.kitB K (He.ga K "File") (He.ga K "Directory") false, fun K => Hk.kitB K (He.ga K "Sparse") (He.ga K "Directory") false, fun K => Hk.kitB K (He.ga K "Symlink") (He.ga K "Directory") false, fun K => Hk.kitB K (He.ga K "Link") (He.ga K "Directory") false, fun K => Hk.kitB K (He.ga K "Symlink") (He.ga K "Link") false, Hk.refV "House", fun K => Hk.clsB K (He.ga K "House"), fun K => Hk.mkB K (He.ga K "House"), fun K => Hk.noB K (He.ga K "House") ["rows", "things", "firsts"]]
def fa1_5 : List (PySem.W.Frag → Bool) := [fun K => Hk.methB K (He.ga K "House") "__init__", Hk.refV "Tree", fun K => Hk.clsB K (He.ga K "Tree"), fun K => Hk.mkB K (He.ga K "Tree"), fun K => Hk.noB K (He.ga K "Tree") ["things", "marks", "many"], fun K => Hk.methB K (He.ga K "Tree") "__init__", fun K => Hk.methB K (He.ga K "House") "entries", fun K => Hk.methB K (He.ga K "File") "content", fun K => Hk.methB K (He.ga K "Sparse") "content", fun K => Hk.methB K (He.ga K "Tree") "house"]
def fa1_6 : List (PySem.W.Frag → Bool) := [fun K => Hk.methB K (He.ga K "Tree") "refusal_at", fun K => Hk.methB K (He.ga K "Tree") "put", Hk.refV "Refused", fun K => Hk.exgB K (He.ga K "Refused") (He.ma K (He.ga K "Refused") "__init__") ([.type "RuntimeError", .type "Exception", .type "BaseException", .type "object"] : List Value) "RuntimeError.__new__", fun K => He.eqO (PySem.W.findIn K (.ref (He.ga K "Refused")) "index") (some none), fun K => He.eqO (PySem.W.findIn K (.ref (He.ga K "Refused")) "word") (some none), fun K => decide (PySem.W.exmOne K (.ref (He.ga K "Refused")) (.ref (He.ga K "Refused")) = some true), fun K => ((["isinstance", "bool", "int", "list", "tuple", "all", "bytes", "str", "len", "abs", "range", "any", "sorted", "dict", "enumerate", "max", "min"] : List Str).all fun b => Hk.freeV b K)]
def fa1_ : List (PySem.W.Frag → Bool) := fa1_0 ++ (fa1_1 ++ (fa1_2 ++ (fa1_3 ++ (fa1_4 ++ (fa1_5 ++ (fa1_6))))))
def fn0_0 : List Hk.FnP := [fn_0, fn_1, fn_2, fn_3, fn_4, fn_5, fn_6, fn_7, fn_8, fn_9, fn_10, fn_11, fn_12, fn_13, fn_14]
def fn0_1 : List Hk.FnP := [fn_15, fn_16, fn_17, fn_18, fn_19, fn_20, fn_21, fn_22, fn_23, fn_24]
def fn0_ : List Hk.FnP := fn0_0 ++ (fn0_1)
def fn1_0 : List Hk.FnP := [fn_25, fn_26, fn_27, fn_28, fn_29, fn_30, fn_31, fn_32, fn_33, fn_34, fn_35, fn_36, fn_37, fn_38, fn_39]
def fn1_1 : List Hk.FnP := [fn_40, fn_41, fn_42, fn_43, fn_44, fn_45, fn_46]
def fn1_ : List Hk.FnP := fn1_0 ++ (fn1_1)
def ts : List He.Tab := []
def ck_f0 : Hk.Ck := ⟨fa0_, fn0_, ts⟩
def ck_f1 : Hk.Ck := ⟨fa1_, fn1_, []⟩
def cks : List Hk.Ck := [ck_f0, ck_f1]
def tt : Hk.TT := fun K => [He.cT K ("law", none)]
abbrev hk : PySem.W.Hook := Hk.hookT cks tt
def ob (s : PySem.W.SharedT) : List Hk.AlX × Bool := Hk.obTs cks tt s
theorem ob_eq (s : PySem.W.SharedT) : ob s = hk.obs s.abs := Hk.obTs_eq s
set_option maxHeartbeats 0 in
theorem run0_f (w : World) : Hk.Run0 R qv 14000 names (w.withFollow "special-get-raises" false) := by
  intro os; kernel_rfl
set_option maxHeartbeats 0 in
theorem run0_t (w : World) : Hk.Run0 R qv 14000 names (w.withFollow "special-get-raises" true) := by
  intro os; kernel_rfl
theorem run0 (w : World) : Hk.Run0 R qv 14000 names w := PySem.W.byRow2 "special-get-raises" (P := Hk.Run0 R qv 14000 names) run0_f run0_t w
set_option maxHeartbeats 0 in
theorem run_f0_f (w : World) : Hk.RunT R 14000 ck_f0 (w.withFollow "special-get-raises" false) := by
  intro os; kernel_rfl
set_option maxHeartbeats 0 in
theorem run_f0_t (w : World) : Hk.RunT R 14000 ck_f0 (w.withFollow "special-get-raises" true) := by
  intro os; kernel_rfl
theorem run_f0 (w : World) : Hk.RunT R 14000 ck_f0 w := PySem.W.byRow2 "special-get-raises" (P := Hk.RunT R 14000 ck_f0) run_f0_f run_f0_t w
set_option maxHeartbeats 0 in
theorem run_f1_f (w : World) : Hk.RunT R 14000 ck_f1 (w.withFollow "special-get-raises" false) := by
  intro os; kernel_rfl
set_option maxHeartbeats 0 in
theorem run_f1_t (w : World) : Hk.RunT R 14000 ck_f1 (w.withFollow "special-get-raises" true) := by
  intro os; kernel_rfl
theorem run_f1 (w : World) : Hk.RunT R 14000 ck_f1 w := PySem.W.byRow2 "special-get-raises" (P := Hk.RunT R 14000 ck_f1) run_f1_f run_f1_t w
set_option maxHeartbeats 0 in
theorem run_tab_f (w : World) : Hk.RunTab R 14000 tt (w.withFollow "special-get-raises" false) := by
  intro os; kernel_rfl
set_option maxHeartbeats 0 in
theorem run_tab_t (w : World) : Hk.RunTab R 14000 tt (w.withFollow "special-get-raises" true) := by
  intro os; kernel_rfl
theorem run_tab (w : World) : Hk.RunTab R 14000 tt w := PySem.W.byRow2 "special-get-raises" (P := Hk.RunTab R 14000 tt) run_tab_f run_tab_t w
theorem run (w : World) : HandSHeadRun.RunEq R qv hk ob 14000 names w := Hk.runT_of (run0 w) (fun c hc => by
  simp only [cks, List.mem_cons, List.not_mem_nil, or_false] at hc
  rcases hc with rfl | rfl
  · exact run_f0 w
  · exact run_f1 w) (run_tab w)
end Hd
section
open PySem PySem.W PySem.Calls PyProof.Rows
set_option maxRecDepth 100000 in
set_option maxHeartbeats 0 in
theorem Hd.early_ (hc : PySem.W.WalkO Hd.qv Hd.names (PySem.W.XL Hd.qv []) Hd.hk.says (PySem.W.OpenRow.toRowW (OpenLaw.row PySem.Challenge.rw_tarhouse_k39_long_and_odd_names)) (HandSHeadRun.topDef (OpenLaw.row PySem.Challenge.rw_tarhouse_k39_long_and_odd_names).prog 72) [] (fun f vs => PySem.call f vs)) : PySem.Challenge.rw_tarhouse_k39_long_and_odd_names.Holds := by
  w_on; o_law
  refine HandSHeadRun.head_any (r := OpenLaw.row PySem.Challenge.rw_tarhouse_k39_long_and_odd_names) (q := Hd.qv) (H := Hd.hk) (ob := Hd.ob) (M := 14000) (loose := Hd.names) (d := HandSHeadRun.topDef (OpenLaw.row PySem.Challenge.rw_tarhouse_k39_long_and_odd_names).prog 72) (kwd := []) Hd.ob_eq
    (by kernel_rfl) (fun s => by kernel_rfl) Hd.run (by kernel_rfl) (by kernel_rfl) (by kernel_rfl) (by rfl) (by first | assumption | decide +kernel) (by decide +kernel) ⟨rfl, rfl, rfl, rfl, rfl, by decide +kernel⟩ ?hw hc
  case hw => w_witness2
end
namespace Th
open PySem PySem.Spec PyProof.Rows L2
section
variable {K : PySem.W.Frag} {σ : L2.St} {H : Hp} {Q : VK} {D : Ends} {t u : TS} {c : TT} {te ta tb tx : TE} {g : TG} {r r' : R2} {v x y : V} {i : Nat} {to tp : TO}
theorem r_seq (h : t { D with nx := u D } σ H) : tSeq t u D σ H := h
theorem r_if (h : c σ H fun b H1 => if b = true then t D σ H1 else u D σ H1) : tIfS c t u D σ H := h
theorem r_asg (h : te σ H fun x H1 => g x σ H1 D.nx) : tAsg te g D σ H := h
theorem r_ret (h : te σ H D.rt) : tRet te D σ H := h
theorem r_next (h : D.nx σ H) : tNext D σ H := h
theorem r_drop (h : te σ H fun _ H1 => D.nx σ H1) : tDrop te D σ H := h
theorem r_cont (h : D.ct σ H) : tCont D σ H := h
theorem r_brk (h : D.bk σ H) : tBreak D σ H := h
theorem r_gname {Q : L2.St → Hp → Prop} (h : Q (σ.set i (some v)) H) : gName i v σ H Q := h
theorem r_var (e : σ[i]? = some (some v)) (h : Q v H) : tVar i σ H Q := ⟨v, e, h⟩
theorem r_c (h : Q v H) : tC v σ H Q := h
theorem r_op (h : ta σ H fun x H1 => tb σ H1 fun y H2 => r x y H2 Q) : tOp r ta tb σ H Q := h
theorem r_un {r : V → Hp → VK → Prop} (h : ta σ H fun x H1 => r x H1 Q) : tUn r ta σ H Q := h
theorem r_neg {i : Int} (h : Q (.int (-i)) H) : rU (fun i => .int (-i)) (.int i) H Q := ⟨i, rfl, h⟩
theorem r_I0 {g : Int → Int → V} {i j : Int} (h : Q (g i j) H) : rI0 g (.int i) (.int j) H Q := ⟨i, j, rfl, rfl, h⟩
theorem r_I {C : Int → Int → Prop} {g : Int → Int → V} {i j : Int} (hc : C i j) (h : Q (g i j) H) : rI C g (.int i) (.int j) H Q := ⟨i, j, rfl, rfl, hc, h⟩
theorem r_test {t : TE} {Q : Bool → Hp → Prop} (h : t σ H fun x H' => ∃ k, x = .bl k ∧ Q k H') : tTest t σ H Q := h
theorem r_tB {t : TE} {Q : Bool → Hp → Prop} (h : t σ H fun x H' => ∃ k, x = .bl k ∧ Q k H') : tB t σ H Q := h
theorem r_bl {b : Bool} {P : Bool → Prop} (h : P b) : ∃ k, V.bl b = .bl k ∧ P k := ⟨b, rfl, h⟩
theorem r_not {t : TT} {Q : Bool → Hp → Prop} (h : t σ H fun c H1 => Q (!c) H1) : tNot t σ H Q := h
theorem r_and {t u : TT} {Q : Bool → Hp → Prop} (h : t σ H fun c H1 => if c = true then u σ H1 Q else Q false H1) : tAnd t u σ H Q := h
theorem r_or {t u : TT} {Q : Bool → Hp → Prop} (h : t σ H fun c H1 => if c = true then Q true H1 else u σ H1 Q) : tOr t u σ H Q := h
theorem r_ifE {t : TT} (h : t σ H fun c H1 => if c = true then ta σ H1 Q else tb σ H1 Q) : tIf t ta tb σ H Q := h
theorem r_notV {t : TE} (h : t σ H fun x H1 => ∃ k, x = .bl k ∧ Q (.bl (!k)) H1) : tNotV t σ H Q := h
theorem r_andV (h : ta σ H fun x H1 => ∃ k, x = .bl k ∧ if k = true then tb σ H1 Q else Q (.bl false) H1) : tAndV ta tb σ H Q := h
theorem r_orV (h : ta σ H fun x H1 => ∃ k, x = .bl k ∧ if k = true then Q (.bl true) H1 else tb σ H1 Q) : tOrV ta tb σ H Q := h
theorem r_chain (h : ta σ H fun x H1 => tb σ H1 fun y H2 => r x y H2 fun z H3 => ∃ k, z = .bl k ∧ (if k = true then tx σ H3 fun w' H4 => r' y w' H4 Q else Q (.bl false) H3)) : tChain r r' ta tb tx σ H Q := h
theorem r_iteD {p A B : Prop} [Decidable p] (h1 : p → A) (h2 : ¬ p → B) : if decide p = true then A else B := by
  by_cases h : p
  · rw [if_pos (decide_eq_true h)]; exact h1 h
  · rw [if_neg (by rw [decide_eq_false h]; exact Bool.false_ne_true)]; exact h2 h
theorem r_iteT {A B : Prop} (h : A) : if true = true then A else B := by rw [if_pos rfl]; exact h
theorem r_iteF {A B : Prop} (h : B) : if false = true then A else B := by rw [if_neg Bool.false_ne_true]; exact h
theorem r_iteNT {A B : Prop} (h : B) : if (!true) = true then A else B := by rw [if_neg (by decide)]; exact h
theorem r_iteNF {A B : Prop} (h : A) : if (!false) = true then A else B := by rw [if_pos (by decide)]; exact h
theorem r_iteN {b : Bool} {A B : Prop} (h1 : b = false → A) (h2 : b = true → B) : if (!b) = true then A else B := by
  cases b with
  | true => exact r_iteNT (h2 rfl)
  | false => exact r_iteNF (h1 rfl)
theorem r_cb {r : List V → Hp → VK → Prop} {t : TA} (h : t σ H fun vs H1 => r vs H1 Q) : tCB r t σ H Q := h
theorem r_call {sp : Sp} {dvs : List V} {E : XK} {t : TA} (h : t σ H fun vs H1 => sp (vs ++ dvs) H1 Q E) : tCall sp dvs E t σ H Q := h
theorem r_nil {Q : List V → Hp → Prop} (h : Q [] H) : tNil σ H Q := h
theorem r_cons {tr : TA} {Q : List V → Hp → Prop} (h : ta σ H fun x H1 => tr σ H1 fun xs H2 => Q (x :: xs) H2) : tCons ta tr σ H Q := h
theorem r_lst {t : TA} (h : t σ H fun xs H1 => xs.length ≤ sizeLine ∧ ∀ p, H1 p = none → Q (.ref p) (upd H1 p (.lst xs))) : tLst t σ H Q := h
theorem r_tup {t : TA} (h : t σ H fun xs H1 => xs.length ≤ sizeLine ∧ ∀ p, H1 p = none → Q (.ref p) (upd H1 p (.tup xs))) : tTup t σ H Q := h
theorem r_new {n m : Nat} {P : Prop} (h : n ≤ m) (q : P) : n ≤ m ∧ P := ⟨h, q⟩
theorem r_ixL {p : Addr} {xs : List V} {i : Int} {v : V} (hp : SqL K H p xs) (hi : atI xs i = some v) (h : Q v H) : rIxL K (.ref p) (.int i) H Q := ⟨p, xs, i, v, rfl, rfl, hp, hi, h⟩
theorem r_ixT {p : Addr} {xs : List V} {i : Int} {v : V} (hp : SqT K H p xs) (hi : atI xs i = some v) (h : Q v H) : rIxT K (.ref p) (.int i) H Q := ⟨p, xs, i, v, rfl, rfl, hp, hi, h⟩
theorem r_gsub {ti : TE} {t : TSet} {Q : L2.St → Hp → Prop} (h : ta σ H fun o H1 => ti σ H1 fun i H2 => t o i v H2 fun H3 => Q σ H3) : gSub ta ti t v σ H Q := h
theorem r_setL {p : Addr} {xs : List V} {k : Int} {j : Nat} {Q : Hp → Prop} (hp : H p = some (.lst xs)) (hk : ixN xs.length k = some j) (h : Q (upd H p (.lst (xs.set j v)))) : rSetL (.ref p) (.int k) v H Q := ⟨p, xs, k, j, rfl, rfl, hp, hk, h⟩
/-! ### heaps -/
theorem upd_old {p a : Addr} {o x : HO} (hp : H p = none) (ha : H a = some x) : upd H p o a = some x := by rw [upd_ne (ne_of_none ha hp)]; exact ha
theorem upd_diff {p a : Addr} {o x : HO} (n : a ≠ p) (ha : H a = some x) : upd H p o a = some x := by rw [upd_ne n]; exact ha
/-- what is not at a stays -/
def But (a : Addr) (H H' : Hp) : Prop := ∀ b o, b ≠ a → H b = some o → H' b = some o
end
end Th
namespace Th
open PySem PySem.Spec PyProof.Rows L2
/-! ### calls of own defs, by one fact each -/
structure CalT (P : Program) (w : World) (K : PySem.W.Frag) (mg : Str → Option Value) (base : Heap) (k : Nat) (x : Str) (sp : Sp) : Prop where
  ex : ∃ (f : Addr) (fd : FuncData) (ps : List Str), FnOk P w K mg base CX0 k f fd ps sp ∧ mg x = some (.ref f) ∧ PySem.W.keepIn K (.ref f) = true ∧ Binds K fd ps []
section
variable {X : Cx} {j k : Nat} {x : Str} {sp : Sp} {e : Expr} {es : List Expr} {p pos : Pos} {t tk : TA} {ks : List Str} {kws : List Keyword}
theorem pe_cc (c : CalT X.prog X.w X.K X.mg X.base k x sp) (hr : Room j X.A) (hk : k ≤ j) (hg : Gl X x) (ha : PA X (e :: es) t) (hdb : (x == ("__debug__" : Str)) = false := by decide)
    (he : starEach (e :: es) X.env = (false, eval e X.env) :: starEach es X.env := by rfl) (hpl : (backTo pos (starEach es X.env)).any (·.1) = false := by rfl) : PE X (.Call (.Name x p) (e :: es) [] pos) (tCall sp [] E0 t) := by
  obtain ⟨f, fd, ps, F, hm, kp, b⟩ := c.ex
  exact pe_call F (hr.mono hk) hg hm kp b .nil pass0 ha hdb he hpl
end
section
variable {K : PySem.W.Frag} {σ : L2.St} {H : Hp} {Q : VK}
theorem r_callN {n m : Nat} {sp : Sp} {gV : List V → List V → List V} {E : XK} {t tk : TA} (h : t σ H fun vs H1 => tk σ H1 fun zs H2 => vs.length = n ∧ zs.length = m ∧ sp (gV vs zs) H2 Q E) : tCallN n m sp gV E t tk σ H Q := h
/-! ### built-in functions, by names -/
def rInt1 : List V → Hp → VK → Prop := fun xs H Q => ∃ i, xs = [.int i] ∧ Q (.int i) H
theorem call_rInt1 {X : Cx} : CallR X (.type "int") rInt1 := fun pins s σ H xs us Q I r h => call_int1 pins s σ H xs us Q I r (.inl h)
theorem r_rInt1 {i : Int} (h : Q (.int i) H) : rInt1 [.int i] H Q := ⟨i, rfl, h⟩
def rIntB : List V → Hp → VK → Prop := fun xs H Q => ∃ i, xs = [.bl i] ∧ Q (.int (if i then 1 else 0)) H
theorem r_rIntB {i : Bool} (h : Q (.int (if i then 1 else 0)) H) : rIntB [.bl i] H Q := ⟨i, rfl, h⟩
def rAbs : List V → Hp → VK → Prop := fun xs H Q => ∃ i, xs = [.int i] ∧ Q (.int (if i < 0 then -i else i)) H
theorem call_rAbs {X : Cx} : CallR X (.builtin "abs") rAbs := call_abs
theorem r_rAbs {i : Int} (h : Q (.int (if i < 0 then -i else i)) H) : rAbs [.int i] H Q := ⟨i, rfl, h⟩
def rMin2 : List V → Hp → VK → Prop := fun xs H Q => ∃ i j, xs = [.int i, .int j] ∧ Q (.int (if j < i then j else i)) H
theorem call_rMin2 {X : Cx} (hc : X.calm = true := by rfl) : CallR X (.builtin "min") rMin2 := call_min2 hc
theorem r_rMin2 {i j : Int} (h : Q (.int (if j < i then j else i)) H) : rMin2 [.int i, .int j] H Q := ⟨i, j, rfl, h⟩
def rMax2 : List V → Hp → VK → Prop := fun xs H Q => ∃ i j, xs = [.int i, .int j] ∧ Q (.int (if j > i then j else i)) H
theorem call_rMax2 {X : Cx} (hc : X.calm = true := by rfl) : CallR X (.builtin "max") rMax2 := call_max2 hc
theorem r_rMax2 {i j : Int} (h : Q (.int (if j > i then j else i)) H) : rMax2 [.int i, .int j] H Q := ⟨i, j, rfl, h⟩
def rLenQ (K : PySem.W.Frag) : List V → Hp → VK → Prop := fun xs H Q => ∃ p ys, xs = [.ref p] ∧ (SqL K H p ys ∨ SqT K H p ys) ∧ Q (.int ys.length) H
theorem call_rLenQ {X : Cx} : CallR X (.builtin "len") (rLenQ X.K) := call_len_seq
theorem r_rLenQ {p : Addr} {ys : List V} (hp : SqL K H p ys ∨ SqT K H p ys) (h : Q (.int ys.length) H) : rLenQ K [.ref p] H Q := ⟨p, ys, rfl, hp, h⟩
def rLenZ : List V → Hp → VK → Prop := fun xs H Q => ∃ z, xs = [.str z] ∧ z.length ≤ sizeLine ∧ Q (.int z.length) H
theorem call_rLenZ {X : Cx} : CallR X (.builtin "len") rLenZ := call_len_str
theorem r_rLenZ {z : Str} (hz : z.length ≤ sizeLine) (h : Q (.int z.length) H) : rLenZ [.str z] H Q := ⟨z, rfl, hz, h⟩
def rAddZ : R2 := fun x y H Q => ∃ i j, x = .str i ∧ y = .str j ∧ i.length + j.length ≤ sizeLine ∧ Q (.str (i ++ j)) H
theorem r_addZ {i j : Str} (hz : i.length + j.length ≤ sizeLine) (h : Q (.str (i ++ j)) H) : rAddZ (.str i) (.str j) H Q := ⟨i, j, rfl, rfl, hz, h⟩
def rInC : R2 := fun x y H Q => ∃ (c : Nat) (z : Str), x = .str ⟨#[c]⟩ ∧ y = .str z ∧ Q (.bl (decide (c ∈ z.cps.toList))) H
theorem op_inSign {X : Cx} : OpR X (compareOp .In) rInC := op_in_sign
theorem r_inC {c : Nat} {z : Str} (h : Q (.bl (decide (c ∈ z.cps.toList))) H) : rInC (.str ⟨#[c]⟩) (.str z) H Q := ⟨c, z, rfl, rfl, h⟩
theorem r_eq {x y : V} (hs : scal x y = true) (h : Q (.bl (decide (x = y))) H) : rEq x y H Q := ⟨hs, h⟩
theorem r_ne {x y : V} (hs : scal x y = true) (h : Q (.bl (!decide (x = y))) H) : rNe x y H Q := ⟨hs, h⟩
theorem r_cat {l b : Addr} {xs zs : List V} (hl : H l = some (.lst xs)) (hb : H b = some (.lst zs)) (hz : xs.length + zs.length ≤ sizeLine) (h : ∀ p, H p = none → Q (.ref p) (upd H p (.lst (xs ++ zs)))) : rCat (.ref l) (.ref b) H Q := ⟨l, b, xs, zs, rfl, rfl, hl, hb, hz, h⟩
theorem r_rep {l : Addr} {k : Int} {xs : List V} (hl : H l = some (.lst xs)) (h0 : -(2 ^ 63) ≤ k) (h1 : k < 2 ^ 63) (hz : xs.length * k.toNat ≤ sizeLine) (h : ∀ p, H p = none → Q (.ref p) (upd H p (.lst (List.replicate k.toNat xs).flatten))) : rRep (.ref l) (.int k) H Q := ⟨l, k, xs, rfl, rfl, hl, h0, h1, hz, h⟩
theorem r_append {l : Addr} {xs : List V} {y : V} (hl : H l = some (.lst xs)) (hz : xs.length < sizeLine) (h : Q .non (upd H l (.lst (xs ++ [y])))) : rAppend (.ref l) [y] H Q := ⟨l, xs, y, rfl, rfl, hl, hz, h⟩
theorem r_bm {T : String} {r : V → List V → Hp → VK → Prop} {to : TE} {t : TA} (h : to σ H fun x H1 => tyV K T x H1 ∧ t σ H1 fun xs H2 => r x xs H2 Q) : tBM K T r to t σ H Q := h
theorem r_tyL {p : Addr} {xs : List V} {P : Prop} (hp : H p = some (.lst xs)) (h : P) : tyV K "list" (.ref p) H ∧ P := ⟨.inl ⟨rfl, _, SqL.of hp⟩, h⟩
theorem r_all {a : Addr} {bs : List Bool} (hp : SqL K H a (bs.map V.bl)) (h : Q (.bl (bs.all id)) H) : rAll K [.ref a] H Q := ⟨a, bs, rfl, hp, h⟩
theorem r_any {a : Addr} {bs : List Bool} (hp : SqL K H a (bs.map V.bl)) (h : Q (.bl (bs.any id)) H) : rAny K [.ref a] H Q := ⟨a, bs, rfl, hp, h⟩
end
end Th
namespace Th
open PySem PySem.Spec PyProof.Rows L2
/-! ### a def that may lean on it that nothing is being shown (repr of a list, a tuple, a dict) -/
structure FnG (P : Program) (w : World) (K : PySem.W.Frag) (mg : Str → Option Value) (base : Heap) (k : Nat) (f : Addr) (fd : FuncData) (ps : List Str) (sp : Sp) : Prop where
  len : ∀ vs H Q E, sp vs H Q E → vs.length = ps.length
  run : ∀ (A : Around) (outer : List Env) (s : Shared) (H : Hp) (args : Args) (us : List Value) (vs : List V) (Q : VK) (E : XK), Room k A → A.guards = some [] →
    Env0 P w K mg base A outer s H → BindsTo s fd args (ps.zip us) → Vals vs us → sp vs H Q E → codeAny (model P w) A (.call (.ref f) args) (CR CX0 outer P w H s Q E) s
/-! ### repr of data -/
/-! ### a text times an int -/
theorem fold_rep (a : Array Nat) : ∀ (n : Nat) (acc : Array Nat), ((List.replicate n a).foldl (· ++ ·) acc).toList = acc.toList ++ (List.replicate n a.toList).flatten
  | 0, acc => by simp
  | n + 1, acc => by
    rw [List.replicate_succ, List.foldl_cons, fold_rep a n, List.replicate_succ, List.flatten_cons, Array.toList_append, List.append_assoc]
theorem fold_rep_size (a : Array Nat) (n : Nat) : ((List.replicate n a).foldl (· ++ ·) #[]).size = n * a.size := by
  have h := congrArg List.length (fold_rep a n #[])
  simpa using h
def repZ (z : Str) (k : Int) : Str := if k < 1 then Str.empty else if (k == 1 || z.length == 0) = true then z else ⟨(List.replicate k.toNat z.cps).foldl (· ++ ·) #[]⟩
def rMulZ : R2 := fun x y H Q => ∃ z k, x = .str z ∧ y = .int k ∧ z.length ≤ 1000 ∧ -(2 ^ 62) ≤ k ∧ k ≤ 5000 ∧ Q (.str (repZ z k)) H
theorem op_mulS {X : Cx} : OpR X (binaryOp .Mult) rMulZ := by
  intro pins s σ H x y v u Q I rx ry h
  obtain ⟨z, k, rfl, rfl, hz, h0, h1, q⟩ := h
  obtain ⟨t, rfl⟩ := rx
  obtain ⟨t', rfl⟩ := ry
  have hzi : (z.length : Int) ≤ 1000 := by omega
  refine PySem.P.mul_str ?_ (fun hk _ => ?_) (fun hk _ => ?_) ?_
  · rw [decide_eq_false (by omega : ¬ k < -(2 ^ 63 : Int)), decide_eq_false (by omega : ¬ k ≥ 2 ^ 63)]; rfl
  · intro hbig
    have hd : (5000 : Int) ≤ (2 ^ 63 - 1) / k := by
      rw [Int.le_ediv_iff_mul_le (by omega)]
      have : (5000 : Int) * k ≤ 5000 * 5000 := Int.mul_le_mul_of_nonneg_left h1 (by decide)
      omega
    omega
  · unfold Builtin.Str.tooLong
    rw [decide_eq_false]
    have hk5 : k.toNat ≤ 5000 := by omega
    have := Nat.mul_le_mul hz hk5
    rw [sizeLine_eq]
    omega
  · unfold repZ at q
    by_cases c1 : k < 1
    · rw [if_pos c1] at q ⊢
      exact ⟨by decide, ⟨.str _, H, I.tok _, ⟨_, rfl⟩, q⟩⟩
    · rw [if_neg c1] at q ⊢
      by_cases c2 : (k == 1 || z.length == 0) = true
      · rw [if_pos c2] at q ⊢
        exact ⟨.str z, H, I, ⟨t, rfl⟩, q⟩
      · rw [if_neg c2] at q ⊢
        refine ⟨?_, ⟨.str _, H, I.tok _, ⟨_, rfl⟩, q⟩⟩
        show ((List.replicate k.toNat z.cps).foldl (· ++ ·) #[]).size ≤ sizeLine
        rw [fold_rep_size]
        have hk5 : k.toNat ≤ 5000 := by omega
        have hz' : z.cps.size ≤ 1000 := hz
        have := Nat.mul_le_mul hk5 hz'
        rw [sizeLine_eq]
        omega
theorem r_mulZ {H : Hp} {Q : VK} {z : Str} {k : Int} (hz : z.length ≤ 1000) (h0 : -(2 ^ 62) ≤ k) (h1 : k ≤ 5000) (h : Q (.str (repZ z k)) H) : rMulZ (.str z) (.int k) H Q := ⟨z, k, rfl, rfl, hz, h0, h1, h⟩
/-! ### comprehensions without a test, whose element only reads (and makes) -/
theorem same_new {H : Hp} {p : Addr} {o : HO} (h : H p = none) : Same H (upd H p o) := fun b u e => by rw [upd_ne (ne_of_none e h)]; exact e
theorem walk_strC {z : Str} : Walk (Its z) (z.cps.toList.map fun c => V.str ⟨#[c]⟩).length (fun _ => True) (YAt (z.cps.toList.map fun c => V.str ⟨#[c]⟩)) := by
  have e : (z.cps.toList.map fun c => V.str ⟨#[c]⟩).length = z.cps.size := by simp
  rw [e]
  refine walk_str.mono (fun _ h => h) ?_
  rintro i H x H' hi _ ⟨e1, c, hc, rfl⟩
  refine ⟨e1, ?_⟩
  rw [List.getElem?_map, Array.getElem?_toList, hc]
  rfl
theorem lc_map {α : Type} {J : It} {cs : List α} {enc f : α → V} {G : Hp → Prop} (w : Walk J (cs.map enc).length G (YAt (cs.map enc))) {j : Nat} {vs : List Nat} {σ : L2.St} {H1 : Hp} {D : Addr} {te : TE} {Qd : Hp → Prop}
    (hD : H1 D = none) (hz : cs.length < sizeLine) (hG : ∀ H', Same H1 H' → G H') (hw : ∀ x, wipe ((wipe σ vs).set j (some x)) vs = wipe σ vs)
    (he : ∀ c ∈ cs, ∀ H', Same H1 H' → ∀ Q : VK, (∀ H2, Same H' H2 → Q (f c) H2) → te ((wipe σ vs).set j (some (enc c))) H' Q)
    (hd : ∀ H', Same H1 H' → H' D = some (.lst (cs.map f)) → Qd H') :
    ∃ W : Nat → Nat → Hp → Prop, (∃ m, W 0 m (upd H1 D (.lst []))) ∧ ∀ i m H, W i m H →
      (J.stop i H ∧ Qd H) ∨ (J.go i H ∧ ∃ Nx : Hp → Prop, (∀ H', Nx H' → ∃ m', m' < m ∧ W (i + 1) m' H') ∧ ∀ x H', J.yld i H x H' → gName j x (wipe σ vs) H' fun σ2 H2 => wipe σ2 vs = wipe σ vs ∧ tYes σ2 H2 fun b H3 =>
        if b = true then te σ2 H3 fun y H4 => ∃ acc, H4 D = some (.lst acc) ∧ acc.length < sizeLine ∧ Nx (upd H4 D (.lst (acc ++ [y]))) else Nx H3) := by
  refine lc_it w (fun i H => Same H1 H ∧ H D = some (.lst ((cs.take i).map f))) ⟨same_new hD, by rw [upd_same]; rfl⟩ (fun i H _ p => hG H p.1) ?_ ?_
  · rintro i x H H' hi ⟨s1, hl⟩ ⟨rfl, hx⟩
    rw [List.length_map] at hi
    have hx' : x = enc cs[i] := by
      rw [List.getElem?_map, List.getElem?_eq_getElem hi] at hx
      exact (Option.some.inj hx).symm
    subst hx'
    refine ⟨hw _, ?_⟩
    unfold tYes
    dsimp only
    rw [if_pos rfl]
    refine he cs[i] (List.getElem_mem hi) H' s1 _ ?_
    intro H2 s2
    refine ⟨_, s2 _ _ hl, ?_, ?_, ?_⟩
    · rw [List.length_map, List.length_take]; omega
    · intro b o e
      have nb : b ≠ D := ne_of_none e hD
      rw [upd_ne nb]
      exact s2 _ _ (s1 _ _ e)
    · rw [upd_same, ← List.take_append_getElem hi, List.map_append]
      rfl
  · rintro H ⟨s1, hl⟩
    rw [List.length_map, List.take_length] at hl
    exact hd H s1 hl
/-! ### isinstance of values of built-in types -/
theorem r_isi {K : PySem.W.Frag} {H : Hp} {Q : VK} {x : V} {T n : String} (b : Bool) (ht : TyX K H x (.type T)) (hk : kitB T n = some b) (h : Q (.bl b) H) : rIsi K [x, .ty n] H Q := ⟨x, .ty n, .type T, .type n, b, rfl, .ty n, ht, kit_ty hk, h⟩
theorem r_isiT2 {K : PySem.W.Frag} {H : Hp} {Q : VK} {x : V} {T n m : String} {tp : Addr} (b c : Bool) (hT : H tp = some (.tup [.ty n, .ty m])) (ht : TyX K H x (.type T)) (hk : kitB T n = some b) (hk2 : kitB T m = some c) (h : Q (.bl (b || c)) H) : rIsiT K [x, .ref tp] H Q := by
  refine ⟨x, tp, _, .type T, [.type n, .type m], (b || c), rfl, hT, .cons (.ty n) (.cons (.ty m) .nil), ht, ?_, h⟩
  refine kitAny_cons (b := b) (kit_ty hk) (fun e => ?_) (fun e => by rw [e]; rfl)
  refine kitAny_cons (b := c) (kit_ty hk2) (fun e2 => ?_) (fun e2 => by rw [e2]; simp)
  rw [e, e2]
  exact kitAny_nil
theorem same_tyB {K : PySem.W.Frag} {H H' : Hp} {x : V} {t : Value} (e : Same H H') (h : TyX K H x t) : TyX K H' x t := by
  cases h with
  | base b =>
    cases b with
    | non => exact .base .non
    | bl y => exact .base (.bl y)
    | int y => exact .base (.int y)
    | str y => exact .base (.str y)
    | flt y => exact .base (.flt y)
    | lst z => exact .base (.lst (e _ _ z))
    | frz z => exact .base (.frz (e _ _ z))
    | tup z => exact .base (.tup (e _ _ z))
    | dK z => exact .base (.dK (e _ _ z))
    | dT z => exact .base (.dT (e _ _ z))
    | ins z cl ha hn htk hm => exact .base (.ins (e _ _ z) cl ha hn htk hm)
  | byt y => exact .byt y
  | set z => exact .set (e _ _ z)
  | kList z c => exact .kList z c
  | kTuple z c => exact .kTuple z c
  | kDict z c => exact .kDict z c
  | fTuple z => exact .fTuple (e _ _ z)
  | fDict z => exact .fDict (e _ _ z)
theorem r_r1 {H : Hp} {Q : VK} {k : V → Hp → VK → Prop} {x : V} (h : k x H Q) : r1 k [x] H Q := h
theorem r_bytesL {K : PySem.W.Frag} {H : Hp} {Q : VK} {p : Addr} {ns : List Int} (hp : SqL K H p (ns.map V.int)) (hn : ∀ n ∈ ns, 0 ≤ n ∧ n < 256) (h : Q (.byt (byteArr ns)) H) : kByts K (.ref p) H Q := .inr ⟨p, ns, rfl, hp, hn, h⟩
/-! ### walks -/
theorem r_lc {wi : TI} {g : TG} {tt : TT} {te : TE} {vs : List Nat} {σ : L2.St} {H : Hp} {Q : VK} (h : wi σ H fun J H1 => ∀ D, H1 D = none → ∃ W : Nat → Nat → Hp → Prop, (∃ m, W 0 m (upd H1 D (.lst []))) ∧ ∀ i m H, W i m H →
  (J.stop i H ∧ Q (.ref D) H) ∨ (J.go i H ∧ ∃ Nx : Hp → Prop, (∀ H', Nx H' → ∃ m', m' < m ∧ W (i + 1) m' H') ∧ ∀ x H', J.yld i H x H' → g x (wipe σ vs) H' fun σ2 H2 => wipe σ2 vs = wipe σ vs ∧ tt σ2 H2 fun b H3 =>
    if b = true then te σ2 H3 fun y H4 => ∃ acc, H4 D = some (.lst acc) ∧ acc.length < sizeLine ∧ Nx (upd H4 D (.lst (acc ++ [y]))) else Nx H3)) : tLc wi g tt te vs σ H Q := h
theorem r_for {wi : TI} {g : TG} {tb : TS} {D : Ends} {σ : L2.St} {H : Hp} (h : wi σ H fun J H1 => ∃ W : Nat → Nat → L2.St → Hp → Prop, (∃ m, W 0 m σ H1) ∧ ∀ i m σ H, W i m σ H →
  (J.stop i H ∧ D.nx σ H) ∨ (J.go i H ∧ ∃ N : L2.St → Hp → Prop, (∀ σ' H', N σ' H' → ∃ m', m' < m ∧ W (i + 1) m' σ' H') ∧ ∀ x H', J.yld i H x H' → g x σ H' fun σ2 H2 => tb { D with nx := N, ct := N, bk := D.nx } σ2 H2)) : tFor wi g tb D σ H := h
theorem r_iStr {te : TE} {σ : L2.St} {H : Hp} {R : It → Hp → Prop} (h : te σ H fun v H1 => ∃ x, v = .str x ∧ R (Its x) H1) : iStr te σ H R := h
theorem r_strE {z : Str} {P : Str → Prop} (h : P z) : ∃ x, V.str z = .str x ∧ P x := ⟨z, rfl, h⟩
theorem r_iList {K : PySem.W.Frag} {tl : TE} {σ : L2.St} {H : Hp} {R : It → Hp → Prop} (h : tl σ H fun x H1 => ∃ a, x = .ref a ∧ (∃ xs, SqL K H1 a xs) ∧ R (Itl K a) H1) : iList K tl σ H R := h
theorem r_listE {K : PySem.W.Frag} {H : Hp} {a : Addr} {xs : List V} {P : Addr → Prop} (hp : SqL K H a xs) (h : P a) : ∃ b, V.ref a = .ref b ∧ (∃ xs, SqL K H b xs) ∧ P b := ⟨a, rfl, ⟨xs, hp⟩, h⟩
theorem r_iRng1 {ta : TA} {σ : L2.St} {H : Hp} {R : It → Hp → Prop} (h : ta σ H fun vs H1 => ∃ j : Int, vs = [.int j] ∧ -(2 ^ 62) ≤ j ∧ j < 2 ^ 62 ∧ R (Itr 0 j.toNat) H1) : iRng1 ta σ H R := h
theorem r_rngE {j : Int} {P : Int → Prop} (h0 : -(2 ^ 62) ≤ j) (h1 : j < 2 ^ 62) (h : P j) : ∃ i : Int, [V.int j] = [.int i] ∧ -(2 ^ 62) ≤ i ∧ i < 2 ^ 62 ∧ P i := ⟨j, rfl, h0, h1, h⟩
/-! ### texts cut at a sign; in a written tuple -/
def rSplit : V → List V → Hp → VK → Prop := fun x xs H Q => ∃ a b, x = .str a ∧ xs = [.str b] ∧ (b.length == 0) = false ∧ a.length + 2 ≤ sizeLine ∧ rNewStrs (Txt.split a b) H Q
theorem pe_splitN {X : Cx} {E : Expr} {to te : TE} (hst : PE X E (tM1 (fun x xs H Q => ∃ a b, x = .str a ∧ xs = [.str b] ∧ (b.length == 0) = false ∧ a.length + 2 ≤ sizeLine ∧ rNewStrs (Txt.split a b) H Q) to te)) : PE X E (tM1 rSplit to te) := hst
section
variable {K : PySem.W.Frag} {σ : L2.St} {H : Hp} {Q : VK}
theorem r_m1 {r : V → List V → Hp → VK → Prop} {to te : TE} (h : to σ H fun x H1 => (∃ a, x = .str a) ∧ te σ H1 fun y H2 => r x [y] H2 Q) : tM1 r to te σ H Q := h
theorem r_isZ {z : Str} {P : Prop} (h : P) : (∃ a, V.str z = .str a) ∧ P := ⟨⟨z, rfl⟩, h⟩
theorem r_split {a b : Str} (hb : (b.length == 0) = false) (ha : a.length + 2 ≤ sizeLine) (h : ∀ p, H p = none → Q (.ref p) (upd H p (.lst ((Txt.split a b).map V.str)))) : rSplit (.str a) [.str b] H Q := ⟨a, b, rfl, rfl, hb, ha, h⟩
theorem r_inT {p : Addr} {x : V} {xs : List V} (hp : SqT K H p xs) (hx : flatV x = true) (ha : xs.all flatV = true) (h : Q (.bl (inV x xs)) H) : rIn K false x (.ref p) H Q := ⟨p, xs, rfl, .inr hp, hx, ha, h⟩
theorem r_inL {p : Addr} {x : V} {xs : List V} (hp : SqL K H p xs) (hx : flatV x = true) (ha : xs.all flatV = true) (h : Q (.bl (inV x xs)) H) : rIn K false x (.ref p) H Q := ⟨p, xs, rfl, .inl hp, hx, ha, h⟩
theorem r_slS {z : Str} {lo hi : Option Int} (hz : z.length ≤ sizeLine) (h : Q (.str (cutS z lo hi)) H) : rSlS (.str z) lo hi H Q := ⟨z, rfl, hz, h⟩
theorem r_sl {r : V → Option Int → Option Int → Hp → VK → Prop} {te : TE} {tl th : TO} (h : te σ H fun x H1 => tl σ H1 fun l H2 => th σ H2 fun u H3 => r x l u H3 Q) : tSl r te tl th σ H Q := h
theorem r_noPart {Q : Option Int → Hp → Prop} (h : Q none H) : tNoPart σ H Q := h
theorem r_part {t : TE} {Q : Option Int → Hp → Prop} (h : t σ H fun x H1 => ∃ i, x = .int i ∧ Q (some i) H1) : tPart t σ H Q := h
theorem r_partE {i : Int} {P : Int → Prop} (h : P i) : ∃ j, V.int i = .int j ∧ P j := ⟨i, rfl, h⟩
end
/-! ### rules that lean on the written part, with it told -/
theorem op_inK {X : Cx} (K : PySem.W.Frag) (h : X.K = K := by rfl) : OpR X (compareOp .In) (rIn K false) := h ▸ op_in_seq
theorem op_notInK {X : Cx} (K : PySem.W.Frag) (h : X.K = K := by rfl) : OpR X (compareOp .NotIn) (rIn K true) := h ▸ op_notIn_seq
theorem ix_listK {X : Cx} (K : PySem.W.Frag) (h : X.K = K := by rfl) : IxR X (rIxL K) := h ▸ ix_list
theorem ix_tupK {X : Cx} (K : PySem.W.Frag) (h : X.K = K := by rfl) : IxR X (rIxT K) := h ▸ ix_tup
theorem call_lenK {X : Cx} (K : PySem.W.Frag) (h : X.K = K := by rfl) : CallR X (.builtin "len") (rLenQ K) := h ▸ call_rLenQ
theorem call_isiK1 {X : Cx} (K : PySem.W.Frag) (h : X.K = K := by rfl) : CallR X (.builtin "isinstance") (rIsi K) := h ▸ call_isi
theorem call_isiK2 {X : Cx} (K : PySem.W.Frag) (h : X.K = K := by rfl) : CallR X (.builtin "isinstance") (rIsiT K) := h ▸ call_isiT
theorem call_allK {X : Cx} (K : PySem.W.Frag) (hc : X.calm = true := by rfl) (h : X.K = K := by rfl) : CallR X (.builtin "all") (rAll K) := h ▸ cr_all hc
theorem call_anyK {X : Cx} (K : PySem.W.Frag) (hc : X.calm = true := by rfl) (h : X.K = K := by rfl) : CallR X (.builtin "any") (rAny K) := h ▸ cr_any hc
theorem sl_listK {X : Cx} (K : PySem.W.Frag) (h : X.K = K := by rfl) : SlR X (rSlL K) := h ▸ sl_list
/-! ### two ways to one int, joined -/
theorem r_joinI {σ σ' : L2.St} {H : Hp} {Q : VK} {ta tb : TE} {p : Prop} [Decidable p] (P : Int → Prop) (k : ∀ c : Int, P c → Q (.int c) H) (h1 : ∀ Q' : VK, (∀ c : Int, P c → Q' (.int c) H) → p → ta σ H Q') (h2 : ∀ Q' : VK, (∀ c : Int, P c → Q' (.int c) H) → ¬ p → tb σ' H Q') : if decide p = true then ta σ H Q else tb σ' H Q :=
  r_iteD (h1 Q k) (h2 Q k)
/-! ### several names at once; slices; whiles -/
section
variable {K : PySem.W.Frag} {σ : L2.St} {H : Hp} {Q : VK} {D : Ends}
theorem r_par {i j : Nat} {ta : TA} (h : ta σ H fun vs H1 => ∃ v w, vs = [v, w] ∧ D.nx ((σ.set i (some v)).set j (some w)) H1) : tPar i j ta D σ H := h
theorem r_pair {v w : V} {P : V → V → Prop} (h : P v w) : ∃ a b, [v, w] = [a, b] ∧ P a b := ⟨v, w, rfl, h⟩
theorem r_par3 {i j l : Nat} {ta : TA} (h : ta σ H fun vs H1 => ∃ u v w, vs = [u, v, w] ∧ D.nx (((σ.set i (some u)).set j (some v)).set l (some w)) H1) : tPar3 i j l ta D σ H := h
theorem r_trip {u v w : V} {P : V → V → V → Prop} (h : P u v w) : ∃ a b c, [u, v, w] = [a, b, c] ∧ P a b c := ⟨u, v, w, rfl, h⟩
theorem r_gtup {n : Nat} {t : TGs} {p : Addr} {xs : List V} {Q : L2.St → Hp → Prop} (hp : SqT K H p xs) (hn : xs.length = n) (h : t xs σ H Q) : gTup K n t (.ref p) σ H Q := ⟨p, xs, rfl, hp, hn, h⟩
theorem r_gcons {t : TG} {u : TGs} {v : V} {r : List V} {Q : L2.St → Hp → Prop} (h : t v σ H fun σ' H' => u r σ' H' Q) : gCons t u (v :: r) σ H Q := ⟨v, r, rfl, h⟩
theorem r_gnil {Q : L2.St → Hp → Prop} (h : Q σ H) : gNil [] σ H Q := ⟨rfl, h⟩
theorem r_slL {p : Addr} {xs : List V} {lo hi : Option Int} (hp : SqL K H p xs) (h : ∀ q, H q = none → Q (.ref q) (upd H q (.lst (cutV xs lo hi)))) : rSlL K (.ref p) lo hi H Q := ⟨p, xs, rfl, hp, h⟩
theorem r_iTup {tl : TE} {R : It → Hp → Prop} (h : tl σ H fun x H1 => ∃ a, x = .ref a ∧ (∃ xs, SqT K H1 a xs) ∧ R (Itt K a) H1) : iTup K tl σ H R := h
theorem r_tupE {a : Addr} {xs : List V} {P : Addr → Prop} (hp : SqT K H a xs) (h : P a) : ∃ b, V.ref a = .ref b ∧ (∃ xs, SqT K H b xs) ∧ P b := ⟨a, rfl, ⟨xs, hp⟩, h⟩
end
theorem pg_tupK {X : Cx} (K : PySem.W.Frag) {T : Expr} {n : Nat} {t : TGs} (h : PG X T (gTup X.K n t)) (hK : X.K = K := by rfl) : PG X T (gTup K n t) := hK ▸ h
def rLenY : List V → Hp → VK → Prop := fun xs H Q => ∃ y : Array UInt8, xs = [.byt y] ∧ y.size ≤ sizeLine ∧ Q (.int y.size) H
theorem call_rLenY {X : Cx} : CallR X (.builtin "len") rLenY := fun pins s σ H xs us Q I r h => by
  obtain ⟨y, rfl, hz, q⟩ := h
  exact call_len pins s σ H _ us Q I r ⟨.byt y, y.size, rfl, (show y.size ≤ sizeLine ∧ y.size = y.size from ⟨hz, rfl⟩), q⟩
theorem r_rLenY {H : Hp} {Q : VK} {y : Array UInt8} (hz : y.size ≤ sizeLine) (h : Q (.int y.size) H) : rLenY [.byt y] H Q := ⟨y, rfl, hz, h⟩
/-! ### defs with keyword-only parameters; attributes -/
theorem funD_ok0 {P : Program} {w : World} {K : PySem.W.Frag} {mg : Str → Option Value} {base : Heap} {x qual : Str} {params : Arguments} {body : List Stmt} {scope : Scope} {dvs : List V} {kws : List (Str × V)} {f : Addr} {fd : FuncData} {N ps : List Str} {k : Nat} {sp : Sp}
    (F : FunD K x qual params body scope dvs kws f fd) (S : FnScope N ps scope) (len : ∀ vs H Q E, sp vs H Q E → vs.length = ps.length)
    (told : ∀ (cdv : Value) (A : Around) (outer : List Env) (s : Shared) (H : Hp) (vs : List V) (Q : VK) (E : XK), Room k (A.deeper (envOfC qual scope s.heap.objs.size f cdv)) → sp vs H Q E →
      ∃ t, PSs (cxOf CX0 P w K mg base N qual scope f cdv A outer s H E).nox body t ∧ t { nx := fun _ H' => Q .non H', rt := Q } (start N vs) H) : FnOk P w K mg base CX0 (k + 1) f fd ps sp :=
  F.ok S len fun cdv A outer s H vs Q E hr h => by
    obtain ⟨t, d, q⟩ := told cdv A outer s H vs Q E hr h
    exact ⟨t, d.nox, q⟩
section
variable {K : PySem.W.Frag} {σ : L2.St} {H : Hp} {Q : VK} {D : Ends}
theorem r_sfld {ta tv : TE} {f : Str} (h : tv σ H fun y H1 => ta σ H1 fun x H2 => ∃ a C dx fs, x = .ref a ∧ H2 a = some (.ins C dx fs) ∧ Cls K C ∧ NoAttr K C f ∧ fs.length < 1000 ∧ D.nx σ (upd H2 a (.ins C dx (putF f y fs)))) : sFld K ta tv f D σ H := h
theorem r_sfldE {p C dx : Addr} {fs : List (Str × V)} {f : Str} {R : Addr → Addr → Addr → List (Str × V) → Prop} (hp : H p = some (.ins C dx fs)) (hc : Cls K C) (hn : NoAttr K C f) (hl : fs.length < 1000) (h : R p C dx fs) :
    ∃ a C dx fs, V.ref p = .ref a ∧ H a = some (.ins C dx fs) ∧ Cls K C ∧ NoAttr K C f ∧ fs.length < 1000 ∧ R a C dx fs := ⟨p, C, dx, fs, rfl, hp, hc, hn, hl, h⟩
theorem r_fld {te : TE} {f : Str} (h : te σ H fun x H1 => ∃ a C dx fs v, x = .ref a ∧ H1 a = some (.ins C dx fs) ∧ Cls K C ∧ NoAttr K C f ∧ fs.lookup f = some v ∧ Q v H1) : tFld K te f σ H Q := h
theorem r_fldE {p C dx : Addr} {fs : List (Str × V)} {f : Str} {v : V} {R : V → Prop} (hp : H p = some (.ins C dx fs)) (hc : Cls K C) (hn : NoAttr K C f) (hl : fs.lookup f = some v) (h : R v) :
    ∃ a C dx fs v, V.ref p = .ref a ∧ H a = some (.ins C dx fs) ∧ Cls K C ∧ NoAttr K C f ∧ fs.lookup f = some v ∧ R v := ⟨p, C, dx, fs, v, rfl, hp, hc, hn, hl, h⟩
end
/-! ### f-strings; repr of an own object -/
def tJoin (ts : List TE) : TE := fun σ H Q => tJs ts Str.empty σ H fun out H1 => Q (.str out) H1
section
variable {K : PySem.W.Frag} {σ : L2.St} {H : Hp} {Q : VK}
theorem r_join {ts : List TE} (h : tJs ts Str.empty σ H fun out H1 => Q (.str out) H1) : tJoin ts σ H Q := h
theorem r_jnil {acc : Str} {Q : Str → Hp → Prop} (h : Q acc H) : tJs [] acc σ H Q := h
theorem r_jcons {t : TE} {ts : List TE} {acc : Str} {Q : Str → Hp → Prop} (h : t σ H fun x H1 => ∃ y : Str, x = .str y ∧ (acc ++ y).length ≤ sizeLine ∧ tJs ts (acc ++ y) σ H1 Q) : tJs (t :: ts) acc σ H Q := h
end
end Th
/-! Rk1: str.rpartition over the layer -/
namespace L2
open PySem PySem.Spec PyProof.Rows
section
variable {X : Cx} {o e : Expr} {to te : TE}
def rRpart : V → List V → Hp → VK → Prop := fun x xs H Q => ∃ a b, x = .str a ∧ xs = [.str b] ∧ (b.length == 0) = false ∧ a.length ≤ sizeLine ∧
    ∀ p, H p = none → Q (.ref p) (upd H p (.tup [.str (Txt.rpartition a b).1, .str (Txt.rpartition a b).2.1, .str (Txt.rpartition a b).2.2]))
theorem mt_rpart : MtR X "str.rpartition" rRpart := by
  intro pins s σ H x xs v us Q I rx rs h
  obtain ⟨a, b, rfl, rfl, hb, hz, h⟩ := h
  obtain ⟨t, rfl⟩ := rx
  cases rs with
  | cons r1 rs =>
    cases rs
    obtain ⟨u, rfl⟩ := r1
    refine call_meets F.slot_str_rpartition (typeIs_str _ _ _) F.entry_str_rpartition (F.args_str_rpartition_2 _ _) (meets_str_rpartition a b t u hb hz) ?_
    unfold Txt.rpartition at h
    revert h
    cases Builtin.Str.lastOccurrence a b 0 a.length with
    | none => intro h; exact laid_parts I h
    | some i => intro h; exact laid_parts I h
theorem pe_rpart {apos pos : Pos} (ho : PE X o to) (he : PE X e te) (hs : starEach [e] X.env = [(false, eval e X.env)] := by rfl) (hbase : attributeBase o "rpartition" X.env (eval o X.env) = eval o X.env := by rfl) (hline : (apos.endLine == pos.line) = true := by rfl) :
    PE X (.Call (.Attribute o "rpartition" apos) [e] [] pos) (tM1 rRpart to te) :=
  pe_m1 F.slot_str_rpartition F.type_str_rpartition mt_rpart ho he hs hbase hline
end
section
variable {X : Cx} {T id : String} {name : Str} {r : V → List V → Hp → VK → Prop} {o e : Expr} {es : List Expr} {to : TE} {t : TA}
theorem pe_bmK {apos cpos : Pos} (K : PySem.W.Frag) (pa : PlainAttrs T) (slot : Slot T name id) (hty : typeOf (.builtin id) = pure (.type "method_descriptor")) (hm : MtR X id r) (ho : PE X o to) (ha : PA X (e :: es) t)
    (hbase : attributeBase o name X.env (eval o X.env) = eval o X.env := by rfl)
    (hfew : ((backTo cpos (starEach (e :: es) X.env)).all (fun x => !x.1) && (backToKw cpos (keywordEach [] X.env)).all (fun x => x.1.isSome)
      && decide ((e :: es).length + ([] : List Keyword).length + (if ([] : List Keyword).isEmpty then 0 else 1) < 30)) = true := by rfl)
    (hline : (apos.endLine == cpos.line) = true := by rfl) (hs : starEach (e :: es) X.env = (false, eval e X.env) :: starEach es X.env := by rfl) (hplain : (backTo cpos (starEach es X.env)).any (·.1) = false := by rfl) (h : X.K = K := by rfl) :
    PE X (.Call (.Attribute o name apos) (e :: es) [] cpos) (tBM K T r to t) := h ▸ pe_bm pa slot hty hm ho ha hbase hfew hline hs hplain
end
section
variable {σ : L2.St} {H : Hp} {Q : VK} {td ty tx tv : TE} {D : Ends}
theorem r_dget (h : td σ H fun x H1 => ty σ H1 fun y H2 => ∃ a v, x = .ref a ∧ DGet H2 a y (some v) ∧ Q v H2) : tDGet td ty σ H Q := h
theorem r_din (h : ty σ H fun y H1 => td σ H1 fun x H2 => ∃ a o, x = .ref a ∧ DGet H2 a y o ∧ Q (.bl o.isSome) H2) : tDIn ty td σ H Q := h
theorem r_dnotin (h : ty σ H fun y H1 => td σ H1 fun x H2 => ∃ a o, x = .ref a ∧ DGet H2 a y o ∧ Q (.bl (!o.isSome)) H2) : tDNotIn ty td σ H Q := h
theorem r_dput (h : tv σ H fun v H1 => td σ H1 fun x H2 => ty σ H2 fun y H3 => ∃ a H4, x = .ref a ∧ DPut H3 a y v H4 ∧ D.nx σ H4) : sDPut td ty tv D σ H := h
theorem r_ddel (h : td σ H fun x H1 => ty σ H1 fun y H2 => ∃ a kvs k, x = .ref a ∧ H2 a = some (.dK kvs) ∧ y = kV k ∧ (valV kvs k).isSome = true ∧ D.nx σ (upd H2 a (.dK (dropK kvs k)))) : sDDel td ty D σ H := h
theorem r_dsetd (h : td σ H fun x H1 => ∃ a, x = .ref a ∧ IsD H1 a ∧ ty σ H1 fun y H2 => tx σ H2 fun z H3 => ∃ (kvs : List (Key × V)) (k : Key), H3 a = some (.dK kvs) ∧ y = kV k ∧ kvs.length < sizeLine ∧
    (∀ v, valV kvs k = some v → Q v H3) ∧ (valV kvs k = none → Q z (upd H3 a (.dK (putK kvs k z))))) : tDSetd td ty tx σ H Q := h
theorem r_rng2 {ta : TA} {R : It → Hp → Prop} (h : ta σ H fun vs H1 => ∃ i j : Int, vs = [.int i, .int j] ∧ (-(2 ^ 62) ≤ i ∧ i < 2 ^ 62 ∧ -(2 ^ 62) ≤ j ∧ j < 2 ^ 62) ∧ R (Itr i (j - i).toNat) H1) : iRng2 ta σ H R := h
theorem r_dnewK (h : ∀ p, H p = none → Q (.ref p) (upd H p (.dK []))) : tDNewK σ H Q := h
end
section
variable {J : It} {n : Nat} {G : Hp → Prop} {Y : Nat → Hp → V → Hp → Prop}
/-- a comprehension that makes a dict, over any walk -/
theorem dc_it (w : Walk J n G Y) {g : TG} {tt : TT} {tk tv : TE} {vs : List Nat} {σ : St} {H1 : Hp} {D : Addr} {Qd : Hp → Prop} (Pv : Nat → Hp → Prop) (h0 : Pv 0 (upd H1 D (.dK []))) (hG : ∀ i H, i ≤ n → Pv i H → G H)
    (hs : ∀ i x H H', i < n → Pv i H → Y i H x H' → g x (wipe σ vs) H' fun σ2 H2 => wipe σ2 vs = wipe σ vs ∧ tt σ2 H2 fun b H3 =>
      if b = true then tk σ2 H3 fun y H4 => tv σ2 H4 fun z H5 => ∃ kvs k, y = kV k ∧ H5 D = some (.dK kvs) ∧ kvs.length < sizeLine ∧ Pv (i + 1) (upd H5 D (.dK (putK kvs k z))) else Pv (i + 1) H3) (hd : ∀ H, Pv n H → Qd H) :
    ∃ W : Nat → Nat → Hp → Prop, (∃ m, W 0 m (upd H1 D (.dK []))) ∧ ∀ i m H, W i m H →
      (J.stop i H ∧ Qd H) ∨ (J.go i H ∧ ∃ Nx : Hp → Prop, (∀ H', Nx H' → ∃ m', m' < m ∧ W (i + 1) m' H') ∧ ∀ x H', J.yld i H x H' → g x (wipe σ vs) H' fun σ2 H2 => wipe σ2 vs = wipe σ vs ∧ tt σ2 H2 fun b H3 =>
        if b = true then tk σ2 H3 fun y H4 => tv σ2 H4 fun z H5 => ∃ kvs k, y = kV k ∧ H5 D = some (.dK kvs) ∧ kvs.length < sizeLine ∧ Nx (upd H5 D (.dK (putK kvs k z))) else Nx H3) := by
  refine ⟨fun i m H => m = n - i ∧ i ≤ n ∧ Pv i H, ⟨n, by simp, Nat.zero_le _, h0⟩, ?_⟩
  rintro i m H ⟨rfl, hi, p⟩
  have q := hG i H hi p
  by_cases hlt : i < n
  · refine .inr ⟨w.goes i H hlt q, Pv (i + 1), fun H' p' => ⟨n - (i + 1), by omega, rfl, hlt, p'⟩, fun x H' y => hs i x H H' hlt p (w.yields i H x H' hlt q y)⟩
  · have e : i = n := by omega
    subst e
    exact .inl ⟨w.stops H q, hd H p⟩
end
theorem pe_fldN {X : Cx} (K : PySem.W.Frag) {e : Expr} {f : Str} {pos : Pos} {ta : TE} (he : PE X e ta) (hb : attributeBase e f X.env (eval e X.env) = eval e X.env := by rfl) (h : X.K = K := by rfl) : PE X (.Attribute e f pos) (tFld K ta f) := h ▸ pe_fld he hb
end L2
/-! f(e, .., *y, k = v): a star among the arguments, and keywords -/
/-! Rk2: a dict comprehension assigned to a name -/
namespace L2
open PySem PySem.Spec PyProof.Rows
end L2
/-! != of lists by an own __eq__; == inside lists by an own __eq__ with both answers -/
namespace GQ
open PySem PySem.SeqAt
open AutoSeq1 (wpAny_loadPart')
open MeetsSeq MeetsSeq2 MeetsSeq3 SeqRoads2
section
variable {prog : Program} {w : World} {A : Around} {R : Result → Shared → Prop}
theorem ne_loopG (l b : Addr) (N : Nat) (I : Nat → Shared → Prop) (hl : ListI prog w A (fun e s' => R (.error e) s') l b N I)
    (fin : ∀ s, I N s → R (.ok (.ret (.bool false))) s) (k : Nat) :
    ∀ i : Nat, N - i = k → i ≤ N → ∀ s, I i s →
      wpAny (model prog w) A.in1 (Builtin.«list.__eq__.loop» ⟨[.ref l, .ref b, rawInt i, rawInt 3], []⟩) (FinOf prog w A R) (fun e s' => R (.error e) s') s := by
  induction k with
  | zero =>
    intro i hk hi s h
    obtain ⟨items, items2, n, n2, hl1, hb1, hs1, hs2, _⟩ := hl _ _ h
    have hi' : i = N := by omega
    have hR : R (.ok (.ret (.bool false))) s := fin s (hi' ▸ h)
    obtain ⟨hp, g, d, tk, os⟩ := s
    wp_walk using wpAny_loadPart' hl1, wpAny_loadPart' hb1
    have hi1 : items[((i : Nat) : Int).toNat]? = none := by simp; omega
    have hi2 : items2[((i : Nat) : Int).toNat]? = none := by simp; omega
    rw [hi1, hi2]
    wp_walk using wpAny_loadPart' hl1, wpAny_loadPart' hb1
    show R (.ok (.ret (.bool (items.size != items2.size)))) _
    rw [hs1, hs2]
    simpa using hR
  | succ k ih =>
    intro i hk hi s h
    obtain ⟨items, items2, n, n2, hl1, hb1, hs1, hs2, turn⟩ := hl _ _ h
    have hlt : i < items.size := by omega
    have hlt2 : i < items2.size := by omega
    have ht := turn hlt hlt2
    obtain ⟨hp, g, d, tk, os⟩ := s
    wp_walk using wpAny_loadPart' hl1, wpAny_loadPart' hb1
    have hi1 : items[((i : Nat) : Int).toNat]? = some items[i] := by simp [hlt]
    have hi2 : items2[((i : Nat) : Int).toNat]? = some items2[i] := by simp [hlt2]
    have hc : ((i : Int) + 1) = ((i + 1 : Nat) : Int) := by omega
    rw [hi1, hi2]
    refine wpAny_bind (wpAny_mono ht (fun r s2 h2 => ?_) fun _ _ x => x)
    obtain ⟨hr, h2⟩ := h2
    subst hr
    have hrec := ih (i + 1) (by omega) (by omega) s2 h2
    obtain ⟨hp2, g2, d2, tk2, os2⟩ := s2
    wp_walk
    rw [hc]
    exact ⟨plainId_quiet plain_eq_loop _, codeAny_builtin entry_eq_loop (by
      rw [Around.under_plainId plain_eq_loop _]
      exact hrec)⟩
theorem list_neG (l b : Addr) (N : Nat) (I : Nat → Shared → Prop) (hl : ListI prog w A (fun e s' => R (.error e) s') l b N I)
    (fin : ∀ s, I N s → R (.ok (.ret (.bool false))) s) {s : Shared} (h : I 0 s) :
    wpAny (model prog w) A.in1 (Builtin.«list.__ne__» ⟨[.ref l, .ref b], []⟩) (FinOf prog w A R) (fun e s' => R (.error e) s') s := by
  obtain ⟨items, items2, n, n2, hl1, hb1, hs1, hs2, _⟩ := hl _ _ h
  have hrec := ne_loopG (A := A) (R := R) l b N I hl fin _ 0 rfl (Nat.zero_le _) s h
  obtain ⟨hp, g, d, tk, os⟩ := s
  have f3 := AutoSeq1.sub_list_list
  have hne : ¬ (items.size != items2.size) = true := by simp [hs1, hs2]
  wp_walk using wpAny_loadPart' hl1, wpAny_loadPart' hb1
  exact ⟨plainId_quiet plain_eq_loop _, codeAny_builtin entry_eq_loop (by
    rw [Around.under_plainId plain_eq_loop _]
    exact hrec)⟩
end
section
variable {prog : Program} {w : World} {A : Around} {E : Value → Shared → Prop} {s : Shared}
theorem rc_neListG {l b : Addr} {N : Nat} {Q : Value → Shared → Prop} (hu : A.units < cLine) (I : Nat → Shared → Prop) (hl : ListI prog w A E l b N I)
    (fin : ∀ s, I N s → Q (.bool false) s) (h : I 0 s) : wpAny (model prog w) A (richCompare .NotEq (.ref l) (.ref b)) Q E s := by
  obtain ⟨items, items2, n, n2, hl1, hb1, _, _, _⟩ := hl _ _ h
  refine wpAny_richCompare_same_room (op := .NotEq) ⟨_, hl1, rfl⟩ ⟨_, hb1, rfl⟩ F.slot_list_ne (call_here F.slot_list_ne ⟨_, hl1, rfl⟩ F.entry_list_ne (F.args_list_ne_2 _ _) ?_) hu
  exact list_neG (R := wants (fun v s' => v ≠ .notImplemented ∧ Q v s') E) l b N I hl (fun s' q => ⟨(fun x => nomatch x), fin s' q⟩) h
end
end GQ
namespace L2
open PySem PySem.Spec PyProof.Rows
section
variable {X : Cx} {n m : Nat} {D D' : Eqv}
theorem RcG.mono (h : RcG X n D) (hn : n ≤ m) : RcG X m D := fun A pins s σ H x y u v sb => h A pins s σ H x y u v (sb.mono hn)
/-- x != y as an expression, of what D says to be equal -/
def rNeG (D : Eqv) : R2 := fun x y H Q => D x y H ∧ ∀ H', Ext H H' → Q (.bl false) H'
theorem op_neGL (hD : Mon D) (h : EqG X n D) (hr : Room (n + 1) X.A) : OpR X (compareOp .NotEq) (rNeG (DList D)) := by
  intro pins s σ H x y v u Q I rx ry hq
  obtain ⟨⟨a, b, xs, ys, rfl, rfl, ha, hb, p⟩, q⟩ := hq
  cases (show v = Value.ref a from rx)
  cases (show u = Value.ref b from ry)
  have sb : Sub X (n + 1) X.A := ⟨hr, rfl⟩
  show wpAny (model X.prog X.w) X.A (richCompare .NotEq (.ref a) (.ref b)) (EP X pins σ Q) X.xe s
  refine GQ.rc_neListG (N := xs.length) sb.room.units0 (fun _ s' => LoopI X pins σ H s') (fun i s' q => ?_) (fun s' q2 => ?_) ⟨H, I, Ext.rfl'⟩
  · obtain ⟨H1, I1, e1⟩ := id q
    obtain ⟨z, its, k, r, e⟩ := I1.hok a _ (e1 _ _ ha)
    obtain ⟨z2, its2, k2, r2, e2⟩ := I1.hok b _ (e1 _ _ hb)
    refine ⟨its.toArray, its2.toArray, k, k2, e, e2, by rw [List.size_toArray, ← r.length], by rw [List.size_toArray, ← r2.length, ← p.1], fun h1 h2 => ?_⟩
    exact turnG hD h sb p r r2 i h1 h2 s' q
  · obtain ⟨H1, I1, e1⟩ := q2
    exact ⟨.bl false, H1, I1, rfl, q H1 e1⟩
end
end L2
/-! != of tuples whose items are equal, by their own __eq__ too -/
namespace GQ
open PySem PySem.SeqAt
open AutoSeq1 (wpAny_loadPart')
open MeetsSeq MeetsSeq2 MeetsSeq3 SeqRoads2
section
variable {prog : Program} {w : World} {A : Around} {R : Result → Shared → Prop}
theorem tuple_neG (ta tb : Addr) (us vs : Array Value) (m m2 : Nat) (da db : Option Addr) (sa sb : Array (Option Value)) (hs : us.size = vs.size) (J : Nat → Shared → Prop)
    (step : ∀ k (k1 : k < us.size) (k2 : k < vs.size) t, J k t → wpAny (model prog w) A.in1 (eqBool us[k] vs[k]) (fun z t' => z = true ∧ J (k + 1) t') (fun z t' => R (.error z) t') t)
    (last : ∀ t, J us.size t → R (.ok (.ret (.bool false))) t) {s : Shared} (ga : s.heap.get? ta = some { cls := .type "tuple", dict := da, data := .seq us m, slots := sa })
    (gb : s.heap.get? tb = some { cls := .type "tuple", dict := db, data := .seq vs m2, slots := sb }) (j0 : J 0 s) :
    wpAny (model prog w) A.in1 (Builtin.«tuple.__ne__» ⟨[.ref ta, .ref tb], []⟩) (FinOf prog w A R) (fun z t' => R (.error z) t') s := by
  have f2 := AutoSeq1.sub_tuple_tuple
  have zl : (us.toList.zip vs.toList).length = us.size := by simp [hs]
  have j0' := j0
  obtain ⟨hp, g, d, tk, os⟩ := s
  wp_walk using wpAny_loadPart' ga, wpAny_loadPart' gb, wpAny_forIn_list _ (fun left b t' => b.1 = none ∧ ∃ k, left = (us.toList.zip vs.toList).drop k ∧ k ≤ us.size ∧ J k t') _
  case turn =>
    rintro ⟨p, q⟩ left b t' ⟨hb', k, hz, hk, hJ⟩
    have kl : k < (us.toList.zip vs.toList).length := Nat.lt_of_not_le fun h' => by
      rw [List.drop_of_length_le h'] at hz
      cases hz
    have k1 : k < us.size := zl ▸ kl
    have k2 : k < vs.size := hs ▸ k1
    rw [List.drop_eq_getElem_cons kl] at hz
    injection hz with hpq hleft
    have hp' : p = us[k] := by simpa using congrArg Prod.fst hpq
    have hq' : q = vs[k] := by simpa using congrArg Prod.snd hpq
    subst hp' hq'
    refine wpAny_bind (wpAny_mono (step k k1 k2 t' hJ) (fun z t2 h2 => ?_) fun _ _ x => x)
    obtain ⟨rfl, h2⟩ := h2
    wp_walk
    exact ⟨rfl, k + 1, hleft, k1, h2⟩
  case fin =>
    rintro ⟨b1, b2⟩ t' ⟨hb', k, hz, hk, hJ⟩
    simp only at hb'
    subst hb'
    have kg : us.size ≤ k := Nat.le_of_not_lt fun h' => by
      rw [List.drop_eq_getElem_cons (zl ▸ h')] at hz
      cases hz
    have hk' : k = us.size := by omega
    have hR : R (.ok (.ret (.bool false))) t' := last t' (hk' ▸ hJ)
    wp_walk
    simpa [Builtin.Tuple.tupleCompareSizes, hs] using hR
  case h =>
    exact ⟨rfl, 0, rfl, Nat.zero_le _, j0'⟩
end
section
variable {prog : Program} {w : World} {A : Around} {E : Value → Shared → Prop} {s : Shared}
theorem rc_neTupG {ta tb : Addr} {us vs : Array Value} {Q : Value → Shared → Prop} (hs : us.size = vs.size) (hu : A.units < cLine) (J : Nat → Shared → Prop)
    (ga : s.heap.IsTuple ta us) (gb : s.heap.IsTuple tb vs)
    (step : ∀ k (k1 : k < us.size) (k2 : k < vs.size) t, J k t → wpAny (model prog w) A.in1 (eqBool us[k] vs[k]) (fun z t' => z = true ∧ J (k + 1) t') E t)
    (last : ∀ t, J us.size t → Q (.bool false) t) (j0 : J 0 s) : wpAny (model prog w) A (richCompare .NotEq (.ref ta) (.ref tb)) Q E s := by
  obtain ⟨⟨c1, d1, dt1, l1⟩, ho1, hc1, m1, hd1⟩ := id ga
  obtain ⟨⟨c2, d2, dt2, l2⟩, ho2, hc2, m2, hd2⟩ := id gb
  simp only at hc1 hd1 hc2 hd2
  subst hc1 hd1 hc2 hd2
  refine wpAny_richCompare_same_room (op := .NotEq) ⟨_, ho1, rfl⟩ ⟨_, ho2, rfl⟩ F.slot_tuple_ne (call_here F.slot_tuple_ne ⟨_, ho1, rfl⟩ F.entry_tuple_ne (F.args_tuple_ne_2 _ _) ?_) hu
  exact tuple_neG (R := wants (fun v t' => v ≠ .notImplemented ∧ Q v t') E) ta tb us vs m1 m2 d1 d2 l1 l2 hs J step (fun t' q => ⟨(fun x => nomatch x), last t' q⟩) ho1 ho2 j0
end
end GQ
namespace L2
open PySem PySem.Spec PyProof.Rows
section
variable {X : Cx} {n : Nat} {D : Eqv}
theorem op_neGT (hD : Mon D) (h : EqG X n D) (hr : Room (n + 1) X.A) : OpR X (compareOp .NotEq) (rNeG (DTup X.K D)) := by
  intro pins s σ H x y v u Q I rx ry hq
  obtain ⟨⟨a, b, xs, ys, rfl, rfl, ha, hb, p⟩, q⟩ := hq
  cases (show v = Value.ref a from rx)
  cases (show u = Value.ref b from ry)
  have sb : Sub X (n + 1) X.A := ⟨hr, rfl⟩
  obtain ⟨its, r, e, z⟩ := I.tuple ha
  obtain ⟨its2, r2, e2, z2⟩ := I.tuple hb
  have hsz : its.toArray.size = its2.toArray.size := by rw [List.size_toArray, List.size_toArray, ← r.length, ← r2.length]; exact p.1
  show wpAny (model X.prog X.w) X.A (richCompare .NotEq (.ref a) (.ref b)) (EP X pins σ Q) X.xe s
  refine GQ.rc_neTupG hsz sb.room.units0 (fun _ s' => LoopI X pins σ H s') e e2 (fun i h1 h2 s' q => turnG hD h sb p r r2 i h1 h2 s' q) (fun s' q2 => ?_) ⟨H, I, Ext.rfl'⟩
  obtain ⟨H1, I1, e1⟩ := q2
  exact ⟨.bl false, H1, I1, rfl, q H1 e1⟩
end
end L2
/-! text.encode("ascii") of a text whose signs are all below 128 -/
/-! f"{n:o}" and f"{n:06o}" of an int from 0 -/
/-! sum of bytes, bytes * int -/
/-! list(b) of bytes -/
/-! the octal digits, written from the last one on -/
/-! repr of bytes -/
namespace PySem.BtR
open PySem Builtin
end PySem.BtR
/-! == and != of lists whose items are compared by own __eq__ with both answers -/
namespace L2
open PySem PySem.Spec PyProof.Rows
end L2
/-! lambdas without parameters as values: made, kept, handed to a def that calls them -/
namespace Th
open PySem PySem.Spec PyProof.Rows L2
open LamX (CodeO Tabs TabS ExtN TabB LamS lamEnv lamCx)
/-- the object at f is a lambda of this text, over these cells -/
def LamO (q : Str) (ps : Arguments) (bd : Expr) (sc : Scope) (cl : List (Str × Addr)) (cc f : Addr) : HO := .ext fun hp => ∃ pv tv : Value, hp.get? f = some (PySem.W.kla_obj "<lambda>" q ps bd sc cl pv cc tv)
theorem lamO_ok {P : Program} {w : World} {H : Hp} {hp : Heap} {q : Str} {ps : Arguments} {bd : Expr} {sc : Scope} {cl : List (Str × Addr)} {cc f : Addr} {pv tv : Value} (e : hp.get? f = some (PySem.W.kla_obj "<lambda>" q ps bd sc cl pv cc tv)) : ObjOk P w H hp f (LamO q ps bd sc cl cc f) :=
  ⟨⟨pv, tv, e⟩, ⟨_, e⟩, fun h1 h2 ⟨a, b, z⟩ st => ⟨a, b, st _ z⟩⟩
/-- lambda: e, as a value -/
def tLamV (T : List (Addr × Str)) (q : Str) (ps : Arguments) (bd : Expr) (sc : Scope) (cl : List (Str × Addr)) : TE := fun σ H Q => Tabs T H ∧ ∀ (f cc : Addr) (H1 : Hp), ExtN H H1 → Tabs T H1 → H1 f = none → H1 cc = some (CodeO cc q) → Q (.ref f) (upd H1 f (LamO q ps bd sc cl cc f))
section
variable {X : Cx}
theorem pe_lamV {T : List (Addr × Str)} {cA PA : Addr} {ps : Arguments} {bd : Expr} {sc : Scope} {at_ : Pos} (TB : TabB X.base X.mg cA PA) (code : X.env.code = .ref cA) (inT : (PA, X.env.qual ++ "<lambda>") ∈ T) (one : ∀ p ∈ T, p.1 = PA → p.2 = X.env.qual ++ "<lambda>")
    (LS : LamS X.env.scope sc) (dfl : defaultsOf ps X.env = ([], [])) : PE X (.Lambda ps bd sc at_) (tLamV T (X.env.qual ++ "<lambda>") ps bd sc (cloFrom X.env.cells sc.names [])) := by
  constructor
  intro pins s σ H Q I told
  obtain ⟨tabs, told⟩ := told
  obtain ⟨row, rowP, trip, known⟩ := tabs _ inT
  apply PySem.W.kla_eval dfl
  have builtins := TB.bm.keeps I.bk
  have rowHere : s.heap.get? PA = some { cls := .none, data := .fields row } := I.hok PA _ rowP
  cases found : codeAmong at_ row.toList with
  | some cv =>
    obtain ⟨cc, rfl, ccO⟩ := known at_ cv found
    apply PySem.W.kla_makeFunctionHit (mg := X.mg) (c := cA) (P := PA) (ps := row) (L2.closure_ok (LS.has I.ok)) I.ok.glob (I.mod.glob.keeps I.bk) code (TB.code.keeps I.bk) rowHere trip found builtins
    intro tv hp tk more size
    have here := Heap.get?_push_size hp (o := PySem.W.kla_obj "<lambda>" (X.env.qual ++ "<lambda>") ps bd sc (cloFrom X.env.cells sc.names []) ((X.mg "__name__").getD .none) cc tv) rfl
    have J := I.laid (t' := tk) (a := hp.objs.size) (o := LamO (X.env.qual ++ "<lambda>") ps bd sc (cloFrom X.env.cells sc.names []) cc hp.objs.size)
      (h' := hp.push (PySem.W.kla_obj "<lambda>" (X.env.qual ++ "<lambda>") ps bd sc (cloFrom X.env.cells sc.names []) ((X.mg "__name__").getD .none) cc tv)) (fun b u e => Heap.get?_push_of_some _ (more b u e)) size (lamO_ok here)
    exact ⟨.ref _, _, J, (rfl : Value.ref _ = Value.ref _), told _ cc H (ExtN.refl H) tabs (I.hok.fresh size) ccO⟩
  | none =>
    apply PySem.W.kla_makeFunction (mg := X.mg) (c := cA) (P := PA) (ps := row) (L2.closure_ok (LS.has I.ok)) I.ok.glob (I.mod.glob.keeps I.bk) code (TB.code.keeps I.bk) rowHere trip found TB.gP builtins
    intro cc tv hp tk ext low high rec_ rowNew
    obtain ⟨c2, co, vals, tok, same, coAt, coDat, coName⟩ := rec_
    cases same
    have new : H cc = none := I.hok.fresh low
    have J := LamX.inv_table (t' := s.toks) (more := #[rawInt at_.line, rawInt at_.col, .ref cc]) (q := X.env.qual ++ "<lambda>") (h' := hp) I rowP (fun b u n e => ext b u n e) rowNew low ⟨co, vals, tok, coAt, coDat, coName⟩
    have size : s.heap.objs.size ≤ hp.objs.size := Nat.le_trans low (Nat.le_of_lt high)
    have here := Heap.get?_push_size hp (o := PySem.W.kla_obj "<lambda>" (X.env.qual ++ "<lambda>") ps bd sc (cloFrom X.env.cells sc.names []) ((X.mg "__name__").getD .none) cc tv) rfl
    have J2 := J.laid (t' := tk) (a := hp.objs.size) (o := LamO (X.env.qual ++ "<lambda>") ps bd sc (cloFrom X.env.cells sc.names []) cc hp.objs.size)
      (h' := hp.push (PySem.W.kla_obj "<lambda>" (X.env.qual ++ "<lambda>") ps bd sc (cloFrom X.env.cells sc.names []) ((X.mg "__name__").getD .none) cc tv)) (fun b u e => Heap.get?_push_of_some _ e) (Nat.le_refl _) (lamO_ok here)
    have stays : ExtN H (upd (upd H PA (.tbl (row ++ #[rawInt at_.line, rawInt at_.col, .ref cc]))) cc (CodeO cc (X.env.qual ++ "<lambda>"))) := fun b u e no => by
      have n1 := ne_of_none e new
      have n2 : b ≠ PA := fun z => by
        subst z
        rw [rowP] at e
        exact no row (Option.some.inj e).symm
      rw [upd_ne n1, upd_ne n2]
      exact e
    have listed : (row ++ #[rawInt at_.line, rawInt at_.col, .ref cc]).toList = row.toList ++ [rawInt at_.line, rawInt at_.col, .ref cc] := by simp
    refine ⟨.ref _, _, J2, (rfl : Value.ref _ = Value.ref _), told _ cc _ stays (fun p pin => ?_) ?_ upd_same⟩
    · by_cases eP : p.1 = PA
      · rw [one p pin eP, eP]
        refine ⟨_, (upd_ne (ne_of_none rowP new)).trans upd_same, ?_, ?_⟩
        · rw [listed]
          exact PySem.TriplesOk_snoc _ _ _ _ trip
        · intro p' cv hit
          rw [listed] at hit
          cases LamX.among_app _ trip hit with
          | inl old =>
            obtain ⟨c0, z1, z2⟩ := known p' cv old
            exact ⟨c0, z1, stays _ _ z2 LamX.codeO_ne⟩
          | inr z => exact ⟨cc, z, upd_same⟩
      · obtain ⟨row2, z1, z2, z3⟩ := tabs p pin
        refine ⟨row2, (upd_ne (ne_of_none z1 new)).trans ((upd_ne eP).trans z1), z2, ?_⟩
        intro p' cv hit
        obtain ⟨c0, y1, y2⟩ := z3 p' cv hit
        exact ⟨c0, y1, stays _ _ y2 LamX.codeO_ne⟩
    · exact J.hok.fresh (Nat.le_refl _)
end
/-! ### the maker's cells, as they stand at a later state -/
/-- the maker's cells hold what its slots say; nothing tracks them -/
structure CellsAt (X : Cx) (σ : L2.St) (H : Hp) (hp : Heap) : Prop where
  ok : X.Ok
  len : σ.length = X.N.length
  is : ∀ y c, X.env.cells.lookup y = some c → H c = none ∧ ∃ v, hp.IsCell c v
  val : ∀ (i : Nat) (y : Str) (v : V) (c : Addr), X.N[i]? = some y → σ[i]? = some (some v) → (X.env.scope.names.lookup y = some .cell ∨ X.env.scope.names.lookup y = some .free) → X.env.cells.lookup y = some c → ∃ u, RelV v u ∧ hp.IsCell c (some u)
section
variable {X : Cx} {pins : List (Addr × Obj)} {σ : L2.St} {H : Hp} {s : Shared}
theorem CellsAt.of (I : Inv X pins σ H s) : CellsAt X σ H s.heap := by
  refine ⟨I.ok, I.len, fun y c e => ⟨I.freeC y c e, I.cell y c e⟩, fun i y v c e1 e2 e3 e4 => ?_⟩
  obtain ⟨m, _, all⟩ := I.loc
  obtain ⟨u, r, q⟩ := all i y v e1 e2 (e3.elim (fun k => .inr (.inl k)) (fun k => .inr (.inr k)))
  rcases q with ⟨k, _⟩ | ⟨_, c2, e5, z⟩
  · have k : X.env.scope.names.lookup y = some .local := k
    rcases e3 with e3 | e3 <;> rw [e3] at k <;> cases k
  · rw [e4] at e5
    cases e5
    exact ⟨u, r, z⟩
theorem CellsAt.later {fs ex : List Addr} {G : Hp} {h2 : Heap} {hp : Heap} (C : CellsAt X σ H hp) (un : Un fs ex H G hp h2) (off : ∀ y c, X.env.cells.lookup y = some c → c ∉ ex) : CellsAt X σ G h2 := by
  have stays : ∀ y c v, X.env.cells.lookup y = some c → hp.IsCell c v → h2.IsCell c v := fun y c v e ⟨o, ho, hd⟩ => by
    obtain ⟨sl, q⟩ := un.any ho (C.is y c e).1 (off y c e)
    exact ⟨_, q, hd⟩
  refine ⟨C.ok, C.len, fun y c e => ?_, fun i y v c e1 e2 e3 e4 => ?_⟩
  · obtain ⟨n, v, z⟩ := C.is y c e
    obtain ⟨o, ho, hd⟩ := z
    exact ⟨un.free c o ho n (off y c e), v, stays y c v e ⟨o, ho, hd⟩⟩
  · obtain ⟨u, r, z⟩ := C.val i y v c e1 e2 e3 e4
    exact ⟨u, r, stays y c _ e4 z⟩
/-- the lambda's body is entered -/
theorem lam_enter {A : Around} {outer : List Env} {E : XK} {sc : Scope} {f cc : Addr} {h1 : Heap} {tk : Nat} (LS : LamS X.env.scope sc) (C : CellsAt X σ H s.heap) (e0 : Env0 X.prog X.w X.K X.mg X.base A outer s H) (calm : A.handled = none)
    (isNs : h1.Ns s.heap.objs.size fun y => ([] : List (Str × Value)).reverse.lookup y) (more : ∀ b o, s.heap.get? b = some o → h1.get? b = some o) : Inv (lamCx X A outer s H E sc f cc) [] σ H { s with heap := h1, toks := tk } := by
  have stays : ∀ c v, s.heap.IsCell c v → h1.IsCell c v := fun c v ⟨o, ho, hd⟩ => ⟨o, more _ _ ho, hd⟩
  have back : ∀ {y c}, (cloFrom X.env.cells sc.names []).lookup y = some c → X.env.cells.lookup y = some c := fun {y c} e => by
    rcases cloFrom_mem (PySem.mem_of_lookup e) with bad | ⟨isFree, same⟩
    · cases bad
    · obtain ⟨c1, hc⟩ := LS.has C.ok _ isFree rfl
      have hc : X.env.cells.lookup y = some c1 := hc
      have e2 : c = c1 := by rw [same, hc] <;> rfl
      rw [e2]
      exact hc
  have forth : ∀ {y}, sc.names.lookup y = some .free → ∃ c, (cloFrom X.env.cells sc.names []).lookup y = some c := fun {y} hl => by
    have isIn : (y, NameKind.free) ∈ sc.names := PySem.mem_of_lookup hl
    exact mem_lookup (cloFrom_has (cells := X.env.cells) (acc := []) isIn)
  have noEx : ∀ b : Addr, b ∉ (lamCx X A outer s H E sc f cc).ex := fun b z => by
    have z : b ∈ ([] : List Addr) := z
    cases z
  have ok : (lamCx X A outer s H E sc f cc).Ok :=
    { mod := e0.mod, kind := LS.kind, glob := rfl, blt := rfl, above := Nat.le_refl _, inj := fun y z c e1 e2 => C.ok.inj y z c (back e1) (back e2)
      has := fun y hy => by
        have hy : sc.names.lookup y = some .cell ∨ sc.names.lookup y = some .free := hy
        rcases hy with hy | hy
        · exact absurd rfl (LS.own _ (PySem.mem_of_lookup hy)).2
        · exact forth hy
      cab := fun y c z _ => by
        have z : false = true := z
        cases z
      hd := fun _ => calm, frames := Around.frames_deeper e0.frames, stk := .inr ⟨rfl, rfl⟩, exf := fun b z => absurd z (noEx b), bs := e0.bs, bsz := e0.bsz, noex := fun b _ _ => noEx b, exfs := fun b z => absurd z (noEx b), funs := e0.funs, frf := e0.frf }
  refine ⟨ok, rfl, e0.bare, Un.kept more, ⟨_, isNs, fun i y v e1 e2 e3 => ?_⟩, fun y c e => ?_, e0.hok.fresh (Nat.le_refl _), fun y c e => (C.is y c (back e)).1, fun q hq => ?_, e0.hok.kept more, C.len⟩
  · have e3 : Vis sc y := e3
    rcases e3 with k | k | k
    · exact absurd rfl (LS.own _ (PySem.mem_of_lookup k)).1
    · exact absurd rfl (LS.own _ (PySem.mem_of_lookup k)).2
    · obtain ⟨c, hc⟩ := forth k
      obtain ⟨u, r, z⟩ := C.val i y v c e1 e2 (LS.free _ (PySem.mem_of_lookup k) rfl) (back hc)
      exact ⟨u, r, .inr ⟨.inr k, c, hc, stays _ _ z⟩⟩
  · obtain ⟨v, z⟩ := (C.is y c (back e)).2
    exact ⟨v, stays _ _ z⟩
  · have hq : q ∈ ([] : List (Addr × Obj)) ++ [] := hq
    simp at hq
end
/-! ### the call of such a lambda, by its name, in the def that got it -/
section
variable {M : Cx} {ms : L2.St} {A0 : Around} {outer0 : List Env} {H : Hp} {s : Shared}
theorem pe_actT {CXg : CXT} {Eg : XK} {Ng : List Str} {qg : Str} {sg : Scope} {g f cc : Addr} {cdg : Value} {ps : Arguments} {bd : Expr} {sc : Scope} {k i : Nat} {a : Str} {pn : List (Addr × Obj)} {xe : Value → Shared → Prop} {W : WX} {t : XK → TE} {p1 p2 : Pos}
    (C0 : CellsAt M ms H s.heap) (LS : LamS M.env.scope sc)
    (binds : ∀ (q : Str) (cl : List (Str × Addr)) (pv cv tv : Value), bindArgs (PySem.W.kla_fn "<lambda>" q ps bd sc cl pv cv tv) ⟨[], []⟩ = pure [])
    (tk : Takes ((cxOf CXg M.prog M.w M.K M.mg M.base Ng qg sg g cdg A0 outer0 s H Eg).tr pn xe) W) (room : Room (k + 1) (A0.deeper (envOfC qg sg s.heap.objs.size g cdg)))
    (inside : ∀ (A : Around) (outer : List Env) (s : Shared) (H : Hp) (E : XK), Room k (A.deeper (lamEnv M sc s.heap.objs.size f cc)) → A.guards = A0.guards → PE (lamCx M A outer s H E sc f cc) bd (t E))
    (slot : Ng[i]? = some a) (vis : Vis sg a) (hd : (a == ("__debug__" : Str)) = false := by decide) (hcd : (a == ("__classdict__" : Str)) = false := by decide) :
    PE ((cxOf CXg M.prog M.w M.K M.mg M.base Ng qg sg g cdg A0 outer0 s H Eg).tr pn xe) (.Call (.Name a p1) [] [] p2)
      (fun τ G Q => τ[i]? = some (some (.ref f)) ∧ G f = some (LamO (M.env.qual ++ "<lambda>") ps bd sc (cloFrom M.env.cells sc.names []) cc f) ∧ G cc = some (CodeO cc (M.env.qual ++ "<lambda>")) ∧ t (fun kl d G' => W kl d τ G') ms G Q) := by
  constructor
  intro pz sz τ G Q IZ told
  obtain ⟨isF, isL, isC, told⟩ := told
  refine wpAny_Call_Name_kw (thn ((pe_var (pos := p1) (i := i) slot vis hd hcd).run pz sz τ G (fun v G1 => v = .ref f ∧ G1 = G) IZ ⟨.ref f, isF, rfl, rfl⟩) fun u s1 got => ?_)
  obtain ⟨v, G1, J, rel, rfl, rfl⟩ := got
  obtain rfl : u = Value.ref f := rel
  obtain ⟨⟨pv, tv, fAt⟩, _, _⟩ := J.hok f _ isL
  obtain ⟨⟨co, vals, tok, coAt, coDat, coName⟩, _, _⟩ := J.hok cc _ isC
  refine PySem.W.callWith_F0 ⟨_, _, _, _, fAt⟩ ?_
  have C1 : CellsAt M ms G1 s1.heap := C0.later J.base (fun _ _ _ z => by cases z)
  have ran : codeAny (model M.prog M.w) (A0.deeper (envOfC qg sg s.heap.objs.size g cdg)) (.call (.ref f) ⟨[], []⟩) (CR (L2.CX M.prog M.w) (envOfC qg sg s.heap.objs.size g cdg :: outer0) M.prog M.w G1 s1 Q fun kl d G' => W kl d τ G') s1 := by
    refine PySem.W.kla_callFunE room.depth fAt rfl LS.co LS.gen rfl ⟨cc, co, vals, tok, rfl, coAt, coDat, coName⟩ ?_
    rw [binds]
    refine wpAny_pure (wpAny_newFunctionEnv (fun y hy => (LS.own y hy).2) (fun y hy => absurd hy (by simp)) (fun hp isNs subBut => ?_) LS.kind)
    refine ⟨J.nolimit.fresh _ subBut, ?_⟩
    have more : ∀ b o, s1.heap.get? b = some o → hp.get? b = some o := fun b o e => subBut.extBut b o (Nat.ne_of_lt (Heap.lt_size e)) (Heap.get?_push_of_some _ e)
    have start_ := lam_enter (E := fun kl d G' => W kl d τ G') (f := f) (cc := cc) (tk := s1.toks + ([] : List (Str × Value)).length) LS C1 J.env0 room.hd isNs more
    refine PySem.W.kla_codeExpr (wpAny_mono ((inside _ _ s1 G1 _ (room.deeper _) rfl).run [] _ _ G1 Q start_ told) (fun v s' done => ?_) fun e s' done => done)
    obtain ⟨w', G', J', rv, q⟩ := done
    exact ⟨w', G', J'.os, J'.bare, J'.base, J'.hok, rv, q⟩
  refine wpAny_call (codeAny_mono ran ?_)
  intro r s' done
  cases r with
  | error e => exact passAt tk τ pz G1 s1 e s' J done
  | ok fl =>
    cases fl with
    | ret u => exact J.after done
    | next => cases done
    | brk => cases done
    | cont => cases done
end
/-! ### a def that gets a lambda and calls it: TT tells what it makes of the lambda's reading -/
/-- the context of such a def's body -/
abbrev zCx (P : Program) (w : World) (K : PySem.W.Frag) (mg : Str → Option Value) (base : Heap) (Ng : List Str) (x : Str) (sg : Scope) (g : Addr) (cdg : Value) (A : Around) (outer : List Env) (s : Shared) (H : Hp) : Cx := cxOf C8.CX0 P w K mg base Ng x sg g cdg A outer s H C8.E0
structure CalL (P : Program) (w : World) (K : PySem.W.Frag) (mg : Str → Option Value) (base : Heap) (k : Nat) (x : Str) (TT : (XK → Hp → VK → Prop) → Hp → VK → Prop) : Prop where
  ex : ∃ (g : Addr) (pg : Arguments) (bg : List Stmt) (sg : Scope) (dV kV doc pm cdg ct oc : Value) (an od : Option Addr) (osl : Array (Option Value)) (Ng : List Str) (a : Str), mg x = some (.ref g) ∧ PySem.W.keepIn K (.ref g) = true ∧
    K.lookup g = some ⟨oc, od, .func (PySem.W.fnOf x x pg bg sg dV kV doc pm an cdg ct), osl⟩ ∧ PySem.W.codeIn K cdg x = true ∧ L2.Binds K (PySem.W.fnOf x x pg bg sg dV kV doc pm an cdg ct) [a] [] ∧ FnScope Ng [a] sg ∧ Ng[0]? = some a ∧ Vis sg a ∧ (a == ("__debug__" : Str)) = false ∧ (a == ("__classdict__" : Str)) = false ∧
    ∀ (A : Around) (outer : List Env) (s : Shared) (H : Hp) (f cc : Addr) (q : Str) (O : HO) (Q : VK) (tl : XK → Hp → VK → Prop), A.guards = some [] → Room k (A.deeper (envOfC x sg s.heap.objs.size g cdg)) →
      (∀ (W : WX) (pn : List (Addr × Obj)) (xe : Value → Shared → Prop) (p1 p2 : Pos), Takes ((zCx P w K mg base Ng x sg g cdg A outer s H).tr pn xe) W →
        PE ((zCx P w K mg base Ng x sg g cdg A outer s H).tr pn xe) (.Call (.Name a p1) [] [] p2) (fun τ G Q => τ[0]? = some (some (.ref f)) ∧ G f = some O ∧ G cc = some (CodeO cc q) ∧ tl (fun kl d G' => W kl d τ G') G Q)) →
      H f = some O → H cc = some (CodeO cc q) → TT tl H Q → ∃ t, PSs (zCx P w K mg base Ng x sg g cdg A outer s H).nox bg t ∧ t { nx := fun _ H' => Q .non H', rt := Q } (L2.start Ng [.ref f]) H
/-- x(e), e a lambda of this text -/
def tCallT (te : TE) (q : Str) (ps : Arguments) (bd : Expr) (sc : Scope) (cl : List (Str × Addr)) (TT : (XK → Hp → VK → Prop) → Hp → VK → Prop) (t : XK → TE) : TE := fun σ H Q =>
  te σ H fun v H1 => ∃ f cc : Addr, v = .ref f ∧ H1 f = some (LamO q ps bd sc cl cc f) ∧ H1 cc = some (CodeO cc q) ∧ TT (fun E G Q' => t E σ G Q') H1 Q
section
variable {X : Cx}
theorem pe_callT {te : TE} {TT : (XK → Hp → VK → Prop) → Hp → VK → Prop} {x : Str} {k k2 j : Nat} {e : Expr} {ps : Arguments} {bd : Expr} {sc : Scope} {t : XK → TE} {p pos : Pos} (c : CalL X.prog X.w X.K X.mg X.base k x TT) (hr : Room j X.A) (hk : k + 1 ≤ j) (hk2 : k2 + 1 ≤ k) (gd : X.A.guards = some []) (hg : Gl X x) (he : PE X e te)
    (LS : LamS X.env.scope sc) (binds : ∀ (q : Str) (cl : List (Str × Addr)) (pv cv tv : Value), bindArgs (PySem.W.kla_fn "<lambda>" q ps bd sc cl pv cv tv) ⟨[], []⟩ = pure [])
    (inside : ∀ (A : Around) (outer : List Env) (s : Shared) (H : Hp) (E : XK) (f cc : Addr), Room k2 (A.deeper (lamEnv X sc s.heap.objs.size f cc)) → A.guards = some [] → PE (lamCx X A outer s H E sc f cc) bd (t E))
    (hdb : (x == ("__debug__" : Str)) = false := by decide) (hst : starEach [e] X.env = (false, eval e X.env) :: starEach [] X.env := by rfl) (hpl : (backTo pos (starEach [] X.env)).any (·.1) = false := by rfl) :
    PE X (.Call (.Name x p) [e] [] pos) (tCallT te (X.env.qual ++ "<lambda>") ps bd sc (cloFrom X.env.cells sc.names []) TT t) := by
  obtain ⟨g, pg, bg, sg, dV, kV, doc, pm, cdg, ct, oc, an, od, osl, Ng, a, mgx, kept, atg, code, gets, S, slot, vis, n1, n2, gives⟩ := c.ex
  constructor
  intro pins s σ H Q I told
  refine wpAny_Call_Name_kw (ld_glob I hg mgx ?_ hdb)
  refine PySem.W.callWith_K (h₀ := X.base) I.ok.mod.kin kept (thn ((pa_cons he pa_nil hst).run pos pins s σ H (fun vs H1 => match vs with
    | [v] => ∃ f cc : Addr, v = .ref f ∧ H1 f = some (LamO (X.env.qual ++ "<lambda>") ps bd sc (cloFrom X.env.cells sc.names []) cc f) ∧ H1 cc = some (CodeO cc (X.env.qual ++ "<lambda>")) ∧ TT (fun E G Q' => t E σ G Q') H1 Q
    | _ => False) I told) fun us s1 got => ?_) hst hpl
  obtain ⟨vs, H1, J, rel, got⟩ := got
  refine ⟨J.kIn, ?_⟩
  match vs, us, rel, got with
  | [v], [u], .cons r1 .nil, ⟨f, cc, ev, isL, isC, wish⟩ =>
    subst ev
    have ran : codeAny (model X.prog X.w) X.A (.call (.ref g) ⟨[.ref f], []⟩) (CR C8.CX0 X.stack X.prog X.w H1 s1 Q C8.E0) s1 := by
      refine LamX.run_ofS (N := Ng) (ps := [a]) (us := [.ref f]) (vs := [.ref f]) atg code S (hr.mono hk) J.env0 (gets s1 [.ref f] J.kIn rfl) (.cons rfl .nil) rfl fun room => ?_
      obtain ⟨t', d', q'⟩ := gives X.A X.stack s1 H1 f cc (X.env.qual ++ "<lambda>") _ Q _ gd room (fun W pn xe p1 p2 tk => pe_actT (k := k2) (i := 0) (CellsAt.of J) LS binds tk (room.mono hk2) (fun A outer s H E h1 h3 => inside A outer s H E f cc h1 (h3.trans gd)) slot vis n1 n2) isL isC wish
      exact ⟨t', d'.nox, q'⟩
    obtain rfl : u = Value.ref f := r1
    refine wpAny_call (codeAny_mono ran ?_)
    intro r s' done
    cases r with
    | error e => exact (show False from done).elim
    | ok fl =>
      cases fl with
      | ret u => exact J.after done
      | next => cases done
      | brk => cases done
      | cont => cases done
end
/-! ### a lambda written as the argument; a statement's lambda -/
section
variable {X : Cx}
theorem pe_callTL {T : List (Addr × Str)} {cA PA : Addr} {TT : (XK → Hp → VK → Prop) → Hp → VK → Prop} {x : Str} {k k2 j : Nat} {ps : Arguments} {bd : Expr} {sc : Scope} {t : XK → TE} {p pos lpos : Pos} (c : CalL X.prog X.w X.K X.mg X.base k x TT) (hr : Room j X.A) (hk : k + 1 ≤ j) (hk2 : k2 + 1 ≤ k) (gd : X.A.guards = some []) (hg : Gl X x)
    (TB : TabB X.base X.mg cA PA) (code : X.env.code = .ref cA) (inT : (PA, X.env.qual ++ "<lambda>") ∈ T) (one : ∀ p ∈ T, p.1 = PA → p.2 = X.env.qual ++ "<lambda>")
    (LS : LamS X.env.scope sc) (dfl : defaultsOf ps X.env = ([], [])) (binds : ∀ (q : Str) (cl : List (Str × Addr)) (pv cv tv : Value), bindArgs (PySem.W.kla_fn "<lambda>" q ps bd sc cl pv cv tv) ⟨[], []⟩ = pure [])
    (inside : ∀ (A : Around) (outer : List Env) (s : Shared) (H : Hp) (E : XK) (f cc : Addr), Room k2 (A.deeper (lamEnv X sc s.heap.objs.size f cc)) → A.guards = some [] → PE (lamCx X A outer s H E sc f cc) bd (t E))
    (hdb : (x == ("__debug__" : Str)) = false := by decide) : PE X (.Call (.Name x p) [.Lambda ps bd sc lpos] [] pos) (tCallT (tLamV T (X.env.qual ++ "<lambda>") ps bd sc (cloFrom X.env.cells sc.names [])) (X.env.qual ++ "<lambda>") ps bd sc (cloFrom X.env.cells sc.names []) TT t) :=
  pe_callT c hr hk hk2 gd hg (pe_lamV TB code inT one LS dfl) LS binds inside hdb rfl rfl
end
end Th
/-! a def whose body makes lambdas: its code object told; the head's hook with code tables -/
namespace Th
open PySem PySem.Spec PyProof.Rows L2
/-- a def, and where its code object stands -/
structure FunC (K : PySem.W.Frag) (x qual : Str) (st : Stmt) (f : Addr) (fd : FuncData) (cA : Addr) : Prop where
  ex : ∃ (oc : Value) (od : Option Addr) (kV doc pm : Value) (an : Option Addr) (ct : Value) (osl : Array (Option Value)),
    fd = PySem.W.fnOf x qual (defArgs st) (defBody st) (defScope st) .none kV doc pm an (.ref cA) ct ∧ K.lookup f = some ⟨oc, od, .func fd, osl⟩ ∧ PySem.W.codeIn K (.ref cA) qual = true
  kp : PySem.W.keepIn K (.ref f) = true
section
variable {P : Program} {w : World} {K : PySem.W.Frag} {mg : Str → Option Value} {base : Heap}
/-- `Fun.okG` that tells the code object -/
theorem FunC.okG {x qual : Str} {st : Stmt} {f : Addr} {fd : FuncData} {cA : Addr} {N ps : List Str} {k : Nat} {sp : Sp} (F : FunC K x qual st f fd cA) (S : FnScope N ps (defScope st)) (hlen : ∀ vs H Q E, sp vs H Q E → vs.length = ps.length)
    (body : ∀ (A : Around) (outer : List Env) (s : Shared) (H : Hp) (vs : List V) (Q : VK) (E : XK), Room k (A.deeper (envOfC qual (defScope st) s.heap.objs.size f (.ref cA))) → A.guards = some [] → sp vs H Q E →
      ∃ t, PSs (cxOf CX0 P w K mg base N qual (defScope st) f (.ref cA) A outer s H E).nox (defBody st) t ∧ t { nx := fun _ H' => Q .non H', rt := Q } (start N vs) H) : FnG P w K mg base (k + 1) f fd ps sp := by
  obtain ⟨oc, od, kV, doc, pm, an, ct, osl, e, lk, hcd⟩ := F.ex
  subst e
  constructor
  · exact hlen
  · intro A outer s H args us vs Q E room gd env0 bnd rel wish
    have stands : ∀ b o, base.get? b = some o → s.heap.get? b = some o := fun b o e => (env0.bs b o e).1
    have kin := env0.mod.kin.keeps stands
    have nol := env0.mod.nolimit.keeps stands
    apply codeAny_call_function room.depth (kin _ _ lk) rfl S.co S.gen rfl (PySem.W.codeRec_of kin hcd)
    refine bnd _ _ _ _ (wpAny_newFunctionEnv_cells S.kind ?kinds ?go)
    case kinds =>
      rintro ⟨n, v⟩ hy
      cases S.par n (List.of_mem_zip hy).1 with
      | inl q => exact Or.inl q
      | inr q => exact Or.inr ⟨q, PySem.W.cellsFrom_some _ _ _ (Or.inl q)⟩
    case go =>
      intro env he s1 inside
      subst he
      refine ⟨nol.keeps inside.toInCall.keep, codeAny_func ?_⟩
      obtain ⟨t, derived, wished⟩ := body A outer s H vs Q E (room.deeper _) gd wish
      have J := inv_start (CX := CX0) (E := E) S room.hd env0 (hlen _ _ _ _ wish) rel inside
      refine wpAny_mono (derived.nox.run [] s1 _ H _ J wished) ?_ (fun e s' z => z)
      intro fl s' z
      cases fl with
      | next =>
        obtain ⟨σ', H', J', q⟩ := z
        exact ⟨V.non, H', J'.os, J'.bare, J'.base, J'.hok, rfl, q⟩
      | ret u =>
        obtain ⟨v, σ', H', J', rv, q⟩ := z
        exact ⟨v, H', J'.os, J'.bare, J'.base, J'.hok, rv, q⟩
      | brk =>
        obtain ⟨_, _, _, q⟩ := z
        exact q.elim
      | cont =>
        obtain ⟨_, _, _, q⟩ := z
        exact q.elim
end
end Th
/-! the law's own call, where lambdas are made: tables of code objects, nothing being shown -/
namespace Th
open PySem PySem.Spec PyProof.Rows L2
open LamX (TabB)
section
variable {P : Program} {w : World} {K : PySem.W.Frag} {mg : Str → Option Value}
/-- the heap at the law's call: the script, the empty tables -/
def lawH (known : Bool) (a : Addr) (vs : List Value) (ns : List Int) (ts : List Addr) : Hp := fun b =>
  if b = a then (if known = true then none else some (.frz { cls := .type "list", data := .seq vs.toArray } (.lst (ns.map V.int)))) else if b ∈ ts then some (.tbl #[]) else none
theorem lawGT {k : Nat} {mb : Str → Option Value} {fa a : Addr} {tabs : List (Addr × Addr)} {fd : FuncData} {x : Str} {sp : Sp} {s₁ : Shared} {vs : List Value} {ns : List Int}
    (KX : K.In s₁.heap) (glob : s₁.heap.Ns mainGlobals mg) (blt : s₁.heap.Ns builtinsNs mb) (boot : ∀ x : Str, x ≠ "__name__" → mb x = bootBuiltins x) (lim : s₁.heap.NoLimit) (gens : s₁.gens = #[])
    (empty : ∀ t ∈ tabs, s₁.heap.get? t.2 = some { cls := .none, data := .fields #[] }) (out : ∀ t ∈ tabs, K.lookup t.2 = none) (code : ∀ t ∈ tabs, PySem.W.CodeHd s₁.heap t.1 t.2)
    (bmod : ∃ (bm : Addr) (ob : Obj), mg "__builtins__" = some (.ref bm) ∧ bm ≠ builtinsNs ∧ s₁.heap.get? bm = some ob ∧ ob.cls = .type "module" ∧ ob.dict = some builtinsNs ∧ ob.data = .plain)
    (script : s₁.heap.get? a = some { cls := .type "list", data := .seq vs.toArray }) (isInts : IntsAre vs ns) (size : ns.length ≤ sizeLine) (room : Room k callerA)
    (F : ∀ base : Heap, K.In base → base.Ns mainGlobals mg → (∀ t ∈ tabs, TabB base mg t.1 t.2) → FnG P w K mg base k fa fd [x] sp) (bind : ∀ (s : Shared) (u : Value), BindsTo s fd ⟨[u], []⟩ [(x, u)])
    (wish : ∀ H : Hp, (∀ t ∈ tabs, H t.2 = some (.tbl #[])) → SqL K H a (ns.map V.int) → sp [.ref a] H (fun v _ => v = .bl true) fun _ _ _ => False) :
    codeAny (model P w) callerA (.call (.ref fa) ⟨[.ref a], []⟩) (fun r s' => r = .ok (.ret (.bool true)) ∧ OldK s₁.heap s'.heap ∧ s'.os = s₁.os ∧ AllBare s'.gens) s₁ := by
  have rv : Vals (ns.map V.int) vs := vals_ints isInts
  have many : vs.length = ns.length := by have := rv.length; rw [List.length_map] at this; omega
  have tabAt : ∀ b, b ∈ tabs.map (·.2) → ∃ t ∈ tabs, t.2 = b := fun b hb => by
    obtain ⟨t, ht, e⟩ := List.mem_map.mp hb
    exact ⟨t, ht, e⟩
  have tabObj : ∀ b, b ∈ tabs.map (·.2) → s₁.heap.get? b = some { cls := .none, data := .fields #[] } := fun b hb => by
    obtain ⟨t, ht, e⟩ := tabAt b hb
    rw [← e]
    exact empty t ht
  have notTab : a ∉ tabs.map (·.2) := fun z => by
    have e := script.symm.trans (tabObj a z)
    cases congrArg Obj.data (Option.some.inj e)
  let known : Bool := (K.lookup a).isSome
  let H := lawH known a vs ns (tabs.map (·.2))
  have atTab : ∀ t ∈ tabs, H t.2 = some (.tbl #[]) := fun t ht => by
    have m : t.2 ∈ tabs.map (·.2) := List.mem_map.mpr ⟨t, ht, rfl⟩
    show (if t.2 = a then _ else if t.2 ∈ tabs.map (·.2) then some (HO.tbl #[]) else none) = _
    have ne : ¬ t.2 = a := fun z => notTab (by rw [← z]; exact m)
    rw [if_neg ne, if_pos m]
  have seen : ∀ b u, H b = some u → (b = a ∧ known = false ∧ u = .frz { cls := .type "list", data := .seq vs.toArray } (.lst (ns.map V.int))) ∨ (b ∈ tabs.map (·.2) ∧ u = .tbl #[]) := fun b u e => by
    have e' : (if b = a then (if known = true then none else some (HO.frz { cls := .type "list", data := .seq vs.toArray } (.lst (ns.map V.int)))) else if b ∈ tabs.map (·.2) then some (.tbl #[]) else none) = some u := e
    by_cases c1 : b = a
    · rw [if_pos c1] at e'
      cases hk : known with
      | true =>
        rw [hk, if_pos rfl] at e'
        cases e'
      | false =>
        rw [hk, if_neg Bool.false_ne_true] at e'
        exact .inl ⟨c1, rfl, (Option.some.inj e').symm⟩
    · rw [if_neg c1] at e'
      by_cases c2 : b ∈ tabs.map (·.2)
      · rw [if_pos c2] at e'
        exact .inr ⟨c2, (Option.some.inj e').symm⟩
      · rw [if_neg c2] at e'
        cases e'
  have held : HOk P w H s₁.heap := fun b u e => by
    rcases seen b u e with ⟨rfl, _, rfl⟩ | ⟨m, rfl⟩
    · exact ⟨script, by rw [List.length_map]; exact size, vs, _, rv, script⟩
    · exact tabObj b m
  have isSeq : SqL K H a (ns.map V.int) := by
    cases q : K.lookup a with
    | some o =>
      have same := (KX a o q).symm.trans script
      cases Option.some.inj same
      exact .inr ⟨_, vs.toArray, _, q, rfl, rfl, rfl, by rw [List.size_toArray, many]; exact size, rv⟩
    | none =>
      refine .inl (.inr ⟨{ cls := .type "list", data := .seq vs.toArray }, ?_⟩)
      show (if a = a then (if known = true then none else some (HO.frz { cls := .type "list", data := .seq vs.toArray } (.lst (ns.map V.int)))) else _) = _
      rw [if_pos rfl, if_neg (by show ¬ (K.lookup a).isSome = true; rw [q]; exact Bool.false_ne_true)]
  have free : ∀ b o, s₁.heap.get? b = some o → (∀ vs n, o.data ≠ .seq vs n) → o.data ≠ .fields #[] → H b = none := fun b o e n1 n2 => by
    cases q : H b with
    | none => rfl
    | some u =>
      rcases seen b u q with ⟨rfl, _, _⟩ | ⟨m, _⟩
      · rw [script] at e
        cases e
        exact absurd rfl (n1 _ _)
      · rw [tabObj b m] at e
        cases e
        exact absurd rfl n2
  have below : ∀ {b : Addr} {m : Str → Option Value}, s₁.heap.Ns b m → (hidT s₁.heap H).Ns b m := by
    rintro b m ⟨o, es, ep, ho, hd, rest⟩
    exact ⟨o, es, ep, hidT_get ho (free b o ho (fun vs n z => by rw [hd] at z; cases z) fun z => by rw [hd] at z; cases z), hd, rest⟩
  have KB : K.In (hidT s₁.heap H) := fun b o e => by
    refine hidT_get (KX b o e) ?_
    cases q : H b with
    | none => rfl
    | some u =>
      rcases seen b u q with ⟨rfl, un, _⟩ | ⟨m, _⟩
      · have un' : (K.lookup b).isSome = false := un
        rw [e] at un'
        cases un'
      · obtain ⟨t, ht, et⟩ := tabAt b m
        rw [← et, out t ht] at e
        cases e
  obtain ⟨mc, l1, l2⟩ := lim
  have modl : Mod K mg (hidT s₁.heap H) := ⟨KB, below glob, ⟨mb, below blt, boot⟩, ⟨mc, below l1, l2⟩⟩
  have TB : ∀ t ∈ tabs, TabB (hidT s₁.heap H) mg t.1 t.2 := fun t ht => by
    refine ⟨?_, ?_, fun z => ?_⟩
    · obtain ⟨o, us, file, tf, flags, tg, inF, text, tt, e1, r1, r2, r3, rest⟩ := code t ht
      refine ⟨o, us, file, tf, flags, tg, inF, text, tt, hidT_get e1 (free t.1 o e1 (fun vs n z => by rw [r2] at z; cases z) fun z => ?_), r1, r2, r3, rest⟩
      rw [r2] at z
      cases z
      simp at r3
    · obtain ⟨bm, ob, b1, b2, b3, b4, b5, b6⟩ := bmod
      have n1 : bm ≠ mainGlobals := fun q => by
        obtain ⟨o, es, ep, e, hd, _⟩ := glob
        rw [q, e] at b3
        cases b3
        rw [hd] at b6
        cases b6
      have n2 : bm ≠ t.2 := fun q => by
        rw [q, empty t ht] at b3
        cases b3
        cases b6
      exact ⟨bm, ob, b1, b2, n1, n2, hidT_get b3 (free bm ob b3 (fun vs n z => by rw [b6] at z; cases z) fun z => by rw [b6] at z; cases z), b4, b5, b6⟩
    · obtain ⟨o, es, ep, e, hd, _⟩ := glob
      rw [z, empty t ht] at e
      cases e
      cases hd
  have none_ : ∀ b ∈ frs [], H b = none := fun b z => by cases z
  have start_ : Env0 P w K mg (hidT s₁.heap H) callerA [] s₁ H := ⟨rfl, modl, fun b o e => of_hidT e, by rw [hidT_size]; exact Nat.le_refl _, trivial, none_, held, .of_eq gens⟩
  have ran := (F _ KB (below glob) TB).run callerA [] s₁ H ⟨[.ref a], []⟩ [.ref a] [.ref a] _ _ room rfl start_ (bind s₁ (.ref a)) (.cons rfl .nil) (wish H atTab isSeq)
  refine codeAny_mono ran ?_
  intro r s' z
  cases r with
  | error e => exact False.elim z
  | ok fl =>
    cases fl with
    | next => exact False.elim z
    | brk => exact False.elim z
    | cont => exact False.elim z
    | ret u =>
      obtain ⟨v, H', os, bare, un, held', rel, isT⟩ := z
      have isT' : v = .bl true := isT
      rw [isT'] at rel
      have hu : u = Value.bool true := rel
      have kept : ∀ b o, b ∉ tabs.map (·.2) → s₁.heap.get? b = some o → s'.heap.get? b = some o := fun b o nb e => by
        cases q : H b with
        | none => exact un.keep b o e q (fun z => by cases z) (fun z => by cases z)
        | some y =>
          rcases seen b y q with ⟨rfl, _, rfl⟩ | ⟨m, _⟩
          · have ⟨g1, _⟩ := held b _ q
            have ⟨g2, _⟩ := held' b _ (un.frzs b _ _ q)
            rw [e] at g1
            cases g1
            exact g2
          · exact absurd m nb
      have grown : ∀ t ∈ tabs, ∃ more : Array Value, s'.heap.get? t.2 = some { cls := .none, data := .fields more } := fun t ht => by
        obtain ⟨more, z⟩ := un.tbls t.2 #[] (atTab t ht)
        exact ⟨_, held' t.2 _ z⟩
      refine ⟨by rw [hu], ⟨fun b o e => ?_, fun b o e => ?_⟩, os, bare⟩
      · by_cases m : b ∈ tabs.map (·.2)
        · obtain ⟨t, ht, rfl⟩ := tabAt b m
          obtain ⟨more, hm⟩ := grown t ht
          have e' := e.symm.trans (empty t ht)
          cases Option.some.inj e'
          exact .inr (.inl ⟨((code t ht).tab (empty t ht)).isCodeTable, rfl, #[], more, rfl, by rw [Array.empty_append]; exact hm⟩)
        · exact .inl (kept b o m e)
      · by_cases m : b ∈ tabs.map (·.2)
        · obtain ⟨t, ht, rfl⟩ := tabAt b m
          obtain ⟨more, hm⟩ := grown t ht
          exact ⟨_, hm⟩
        · exact ⟨o, kept b o m e⟩
end
/-- the goal that a head by facts leaves, from the law's promise, with tables -/
theorem walkGT {l : PySem.W.OpenLaw} {n k : Nat} {q : Program} {loose : List Str} {XP : (Str → Option Value) → Heap → Prop} {YP : World → Heap → Prop} {d : DefRec} {sp : World → PySem.W.Frag → List (Addr × Addr) → Sp} {x : Str}
    (hn : l.most = some n) (hn2 : n ≤ sizeLine) (hdf : d.params.defaults = []) (room : Room k callerA)
    (F : ∀ (w : World) (mg : Str → Option Value) (fa : Addr) (h : Heap), YP w h → h.Ns mainGlobals mg → mg d.name = some (.ref fa) →
      ∃ (K : PySem.W.Frag) (tabs : List (Addr × Addr)), K.In h ∧ (∀ t ∈ tabs, h.get? t.2 = some { cls := .none, data := .fields #[] }) ∧ (∀ t ∈ tabs, K.lookup t.2 = none) ∧ (∀ t ∈ tabs, PySem.W.CodeHd h t.1 t.2) ∧
        ∃ fd : FuncData, (∀ (s : Shared) (u : Value), BindsTo s fd ⟨[u], []⟩ [(x, u)]) ∧ ∀ base : Heap, K.In base → base.Ns mainGlobals mg → (∀ t ∈ tabs, TabB base mg t.1 t.2) → FnG l.prog w K mg base k fa fd [x] (sp w K tabs))
    (hsp : ∀ (w : World) (K : PySem.W.Frag) (tabs : List (Addr × Addr)) (H : Hp) (a : Addr) (ns : List Int), ns.length ≤ n → (∀ t ∈ tabs, H t.2 = some (.tbl #[])) → SqL K H a (ns.map V.int) → sp w K tabs [.ref a] H (fun v _ => v = .bl true) fun _ _ _ => False) :
    PySem.W.WalkO q loose XP YP l.row.toRowW d [] (fun f vs => PySem.call f vs) := by
  apply Att.attach_callB hn hdf
  intro w s₀ s₁ mg mb fa o pm cd doc a vs ns G Y ho hd hcd hmg hobj hints hlen hbits hg
  obtain ⟨K, tabs, KX, t1, t2, t3, fd, bnd, every⟩ := F w mg fa _ Y G.T.g hmg
  exact lawGT KX G.T.g G.T.b G.T.builtins G.T.nolimit hg t1 t2 t3 G.T.bmain hobj hints (Nat.le_trans hlen hn2) room every bnd (fun H h1 h2 => hsp w K tabs H a ns hlen h1 h2)
end Th
namespace Th
open PySem PySem.Spec PyProof.Rows L2
local macro_rules | `(tactic| walk_at "lk") => `(tactic| first
  | assumption
  | exact upd_same
  | (refine upd_old (by assumption) ?_; walk_at "lk")
  | (refine upd_diff (by assumption) ?_; walk_at "lk")
  | (refine upd_diff (Ne.symm (by assumption)) ?_; walk_at "lk"))
local macro_rules | `(tactic| walk_at "cnd") => `(tactic| first
  | omega
  | (refine ⟨by omega, by omega⟩)
  | (refine ⟨by omega, by omega, by omega⟩)
  | (refine .inl ⟨by omega, by omega⟩)
  | (refine .inr ⟨by omega, by omega⟩)
  | (exact (show CPow _ _ from ⟨by decide, by decide, by omega⟩))
  | decide +kernel
  | (unfold CMulW; decide +kernel)
  | (exact wide_div (b := 64) (by omega) (by omega) (by decide) (by decide)))
local macro_rules | `(tactic| walk_at "rd1") => `(tactic| first
  | (with_reducible refine r_seq ?_)
  | (with_reducible refine r_asg ?_)
  | (with_reducible refine r_ret ?_)
  | (with_reducible refine r_if ?_)
  | (with_reducible refine r_gname ?_)
  | ((with_reducible refine' r_var ?hv ?_); (case hv => exact rfl))
  | (with_reducible refine r_c ?_)
  | (with_reducible refine r_op ?_)
  | (with_reducible refine r_I0 ?_)
  | ((with_reducible refine r_I ?hc ?_); (case hc => walk_at "cnd"))
  | (with_reducible refine r_test ?_)
  | (with_reducible refine r_tB ?_)
  | (with_reducible refine r_bl ?_)
  | (with_reducible refine r_not ?_)
  | (with_reducible refine r_and ?_)
  | (with_reducible refine r_or ?_)
  | (with_reducible refine r_ifE ?_)
  | (with_reducible refine r_notV ?_)
  | (with_reducible refine r_andV ?_)
  | (with_reducible refine r_orV ?_)
  | (with_reducible refine r_chain ?_)
  | (with_reducible refine r_cb ?_)
  | (with_reducible refine r_call ?_)
  | (with_reducible refine r_callN ?_)
  | (with_reducible refine r_nil ?_)
  | (with_reducible refine r_dget ?_)
  | ((with_reducible refine r_dnewK ?_); (intro p hp))
  | (with_reducible refine r_din ?_)
  | (with_reducible refine r_dnotin ?_)
  | (with_reducible refine r_dput ?_)
  | (with_reducible refine r_ddel ?_)
  | (with_reducible refine r_dsetd ?_)
  | (with_reducible refine r_rng2 ?_)
  | (with_reducible refine r_cons ?_)
  | ((with_reducible refine r_lst ?_))
  | ((with_reducible refine r_tup ?_))
  | ((with_reducible refine r_new ?_ ?_); (exact Nat.le_of_ble_eq_true rfl); (intro p hp))
  | (with_reducible refine r_rInt1 ?_)
  | (with_reducible refine r_rIntB ?_)
  | (with_reducible refine r_rAbs ?_)
  | (with_reducible refine r_rMin2 ?_)
  | (with_reducible refine r_rMax2 ?_)
  | ((with_reducible refine r_rLenZ ?hz ?_); (case hz => first | assumption | exact Nat.le_of_ble_eq_true rfl | (refine Nat.le_trans ?_ (by decide : 100000 ≤ sizeLine); omega)))
  | ((with_reducible refine r_addZ ?hz ?_); (case hz => (refine Nat.le_trans ?_ (by decide : 100000 ≤ sizeLine); first | omega | (simp only [Str.length] at *; simp; omega))))
  | ((with_reducible refine r_mulZ ?hz ?h0 ?h1 ?_); (case hz => first | omega | exact Nat.le_of_ble_eq_true rfl); (case h0 => omega); (case h1 => omega))
  | ((with_reducible refine' r_rLenQ ?h1 ?_); (case h1 => first | (exact .inl (by assumption)) | (exact .inr (by assumption)) | (exact .inl (SqL.of (by walk_at "lk"))) | (exact .inr (SqT.of (by walk_at "lk")))))
  | ((with_reducible refine r_eq ?hs ?_); (case hs => exact rfl))
  | ((with_reducible refine r_ne ?hs ?_); (case hs => exact rfl))
  | (with_reducible refine r_inC ?_)
  | ((with_reducible refine' r_cat ?h1 ?h2 ?h3 ?_); (case h1 => walk_at "lk"); (case h2 => walk_at "lk"); (case h3 => exact Nat.le_of_ble_eq_true rfl); (intro p hp))
  | ((with_reducible refine' r_rep ?h1 ?h2 ?h3 ?h4 ?_); (case h1 => walk_at "lk"); (case h2 => omega); (case h3 => omega); (case h4 => exact Nat.le_of_ble_eq_true rfl); (intro p hp))
  | ((with_reducible refine' r_append ?h1 ?h2 ?_); (case h1 => walk_at "lk"); (case h2 => first | exact (show _ + 1 ≤ sizeLine from Nat.le_of_ble_eq_true rfl) | exact Nat.lt_of_le_of_lt (by omega : _ ≤ 100000) (by decide)))
  | (with_reducible refine r_bm ?_)
  | ((with_reducible refine' r_tyL ?h1 ?_); (case h1 => walk_at "lk"))
  | ((with_reducible refine' r_ixL ?h1 ?h2 ?_); (case h1 => first | assumption | exact SqL.of (by walk_at "lk")); (case h2 => exact rfl))
  | ((with_reducible refine' r_ixT ?h1 ?h2 ?_); (case h1 => first | assumption | exact SqT.of (by walk_at "lk")); (case h2 => exact rfl))
  | (with_reducible refine r_gsub ?_)
  | ((with_reducible refine' r_setL ?h1 ?h2 ?_); (case h1 => walk_at "lk"); (case h2 => exact rfl))
  | (with_reducible refine r_un ?_)
  | (with_reducible refine r_neg ?_)
  | (with_reducible refine r_iteT ?_)
  | (with_reducible refine r_iteNT ?_)
  | (with_reducible refine r_iteNF ?_)
  | (with_reducible refine r_iteF ?_)
  | (with_reducible refine r_next ?_)
  | (with_reducible refine r_drop ?_)
  | (with_reducible refine r_cont ?_)
  | (with_reducible refine r_brk ?_))
local macro_rules | `(tactic| walk_at "ty") => `(tactic| first
  | assumption
  | exact .base (.int _)
  | exact .base (.str _)
  | exact .base (.bl _)
  | exact .base .non
  | exact .byt _
  | exact .base (.lst (by walk_at "lk"))
  | exact .base (.tup (by walk_at "lk")))
local macro_rules | `(tactic| walk_at "rd2") => `(tactic| first
  | walk_at "rd1"
  | ((with_reducible refine' r_isi true ?ht ?hk ?_); (case ht => walk_at "ty"); (case hk => first | assumption | decide +kernel))
  | ((with_reducible refine' r_isi false ?ht ?hk ?_); (case ht => walk_at "ty"); (case hk => first | assumption | decide +kernel))
  | ((with_reducible refine' r_isiT2 true true ?hT ?ht ?hk ?hk2 ?_); (case hT => walk_at "lk"); (case ht => walk_at "ty"); (case hk => decide +kernel); (case hk2 => decide +kernel))
  | ((with_reducible refine' r_isiT2 true false ?hT ?ht ?hk ?hk2 ?_); (case hT => walk_at "lk"); (case ht => walk_at "ty"); (case hk => decide +kernel); (case hk2 => decide +kernel))
  | ((with_reducible refine' r_isiT2 false true ?hT ?ht ?hk ?hk2 ?_); (case hT => walk_at "lk"); (case ht => walk_at "ty"); (case hk => decide +kernel); (case hk2 => decide +kernel))
  | ((with_reducible refine' r_isiT2 false false ?hT ?ht ?hk ?hk2 ?_); (case hT => walk_at "lk"); (case ht => walk_at "ty"); (case hk => decide +kernel); (case hk2 => decide +kernel))
  | (with_reducible refine r_iteNT ?_)
  | ((show (if (!true) = true then _ else _)); refine r_iteNT ?_)
  | (with_reducible refine r_r1 ?_)
  | (with_reducible refine r_maks ?_)
  | (with_reducible refine r_sfld ?_)
  | ((with_reducible refine' r_sfldE ?h1 ?h2 ?h3 ?h4 ?_); (case h1 => walk_at "lk"); (case h2 => assumption); (case h3 => assumption); (case h4 => exact (show _ + 1 ≤ 1000 from Nat.le_of_ble_eq_true rfl)))
  | (with_reducible refine r_fld ?_)
  | (with_reducible refine r_join ?_)
  | (with_reducible refine r_jcons ?_)
  | (with_reducible refine r_jnil ?_)
  | ((with_reducible refine r_rLenY ?hz ?_); (case hz => first | assumption | (refine Nat.le_trans ?_ (by decide : 100000 ≤ sizeLine); omega)))
  | (with_reducible refine r_par ?_)
  | (with_reducible refine r_pair ?_)
  | (with_reducible refine r_par3 ?_)
  | (with_reducible refine r_trip ?_)
  | ((with_reducible refine' r_gtup ?h1 ?h2 ?_); (case h1 => first | assumption | exact SqT.of (by walk_at "lk")); (case h2 => exact rfl))
  | (with_reducible refine r_gcons ?_)
  | (with_reducible refine r_gnil ?_)
  | ((with_reducible refine' r_slL ?h1 ?_); (case h1 => first | assumption | exact SqL.of (by walk_at "lk")); (intro p hp))
  | (with_reducible refine r_iTup ?_)
  | ((with_reducible refine' r_tupE ?h1 ?_); (case h1 => first | assumption | exact SqT.of (by walk_at "lk")))
  | (with_reducible refine r_m1 ?_)
  | (with_reducible refine r_isZ ?_)
  | (with_reducible refine r_sl ?_)
  | (with_reducible refine r_noPart ?_)
  | (with_reducible refine r_part ?_)
  | (with_reducible refine r_partE ?_)
  | ((with_reducible refine r_slS ?hz ?_); (case hz => first | assumption | (refine Nat.le_trans ?_ (by decide : 100000 ≤ sizeLine); omega)))
  | ((with_reducible refine' r_inT ?h1 ?h2 ?h3 ?_); (case h1 => first | assumption | (exact SqT.of (by walk_at "lk"))); (case h2 => exact rfl); (case h3 => exact rfl))
  | ((with_reducible refine' r_inL ?h1 ?h2 ?h3 ?_); (case h1 => first | assumption | (exact SqL.of (by walk_at "lk"))); (case h2 => exact rfl); (case h3 => exact rfl))
  | (with_reducible refine r_lc ?_)
  | (with_reducible refine r_for ?_)
  | (with_reducible refine r_iStr ?_)
  | (with_reducible refine r_strE ?_)
  | (with_reducible refine r_iList ?_)
  | ((with_reducible refine' r_listE ?h1 ?_); (case h1 => first | assumption | exact SqL.of (by walk_at "lk")))
  | (with_reducible refine r_iRng1 ?_)
  | ((with_reducible refine' r_rngE ?h0 ?h1 ?_); (case h0 => first | omega | (split <;> omega)); (case h1 => first | omega | (split <;> omega))))
local macro_rules | `(tactic| walk_at "rd") => `(tactic| (repeat walk_at "rd2"))
local macro_rules | `(tactic| walk_at "st") => `(tactic| (repeat (first
  | (with_reducible refine r_gname ?_)
  | (with_reducible refine r_next ?_)
  | (with_reducible refine r_seq ?_)
  | (with_reducible refine r_asg ?_)
  | (with_reducible refine r_ret ?_)
  | (with_reducible refine r_for ?_)
  | (with_reducible refine r_iRng1 ?_)
  | (with_reducible refine r_iList ?_)
  | (with_reducible refine r_cons ?_)
  | (with_reducible refine r_par ?_)
  | (with_reducible refine r_par3 ?_))))
def topS (i : Nat) : Stmt := PySem.Challenge.pw_tarhouse_k39_long_and_odd_names.main.body.getD i (.Pass ⟨0, 0, 0, 0⟩)
abbrev s_is_integer : Stmt := topS 14
abbrev N_is_integer : List Str := ["thing"]
theorem sc_is_integer : FnScope N_is_integer ["thing"] (defScope s_is_integer) := ⟨rfl, rfl, rfl, by decide +kernel, rfl, by decide +kernel, by decide +kernel⟩
abbrev s_is_integer_within : Stmt := topS 15
abbrev N_is_integer_within : List Str := ["thing", "least", "most"]
theorem sc_is_integer_within : FnScope N_is_integer_within ["thing", "least", "most"] (defScope s_is_integer_within) := ⟨rfl, rfl, rfl, by decide +kernel, rfl, by decide +kernel, by decide +kernel⟩
abbrev s_is_name : Stmt := topS 24
abbrev N_is_name : List Str := ["thing", "character"]
theorem sc_is_name : FnScope N_is_name ["thing"] (defScope s_is_name) := ⟨rfl, rfl, rfl, by decide +kernel, rfl, by decide +kernel, by decide +kernel⟩
abbrev s_blob : Stmt := topS 64
abbrev N_blob : List Str := ["numbers"]
theorem sc_blob : FnScope N_blob ["numbers"] (defScope s_blob) := ⟨rfl, rfl, rfl, by decide +kernel, rfl, by decide +kernel, by decide +kernel⟩
abbrev s_is_row_of_bytes : Stmt := topS 65
abbrev N_is_row_of_bytes : List Str := ["thing", "number"]
theorem sc_is_row_of_bytes : FnScope N_is_row_of_bytes ["thing"] (defScope s_is_row_of_bytes) := ⟨rfl, rfl, rfl, by decide +kernel, rfl, by decide +kernel, by decide +kernel⟩
abbrev s__law_source : Stmt := topS 67
abbrev N__law_source : List Str := ["_law_script", "_law_at", "_law_cell", "_law_great", "_law_mixed"]
theorem sc__law_source : FnScope N__law_source ["_law_script", "_law_at"] (defScope s__law_source) := ⟨rfl, rfl, rfl, by decide +kernel, rfl, by decide +kernel, by decide +kernel⟩
abbrev s__law_draw : Stmt := topS 68
abbrev N__law_draw : List Str := ["_law_source_here", "_law_many", "_law_digit", "_law_primes", "_law_turn", "_law_base", "_law_found"]
theorem sc__law_draw : FnScope N__law_draw ["_law_source_here", "_law_many"] (defScope s__law_draw) := ⟨rfl, rfl, rfl, by decide +kernel, rfl, by decide +kernel, by decide +kernel⟩
abbrev s_law : Stmt := topS 72
abbrev N_law : List Str := ["_law_script", "_law_at", "_law_source_here", "_law_turn", "_law_name_here", "_law_parts", "_law_due", "_law_found", "_law_member", "_law_members", "_law_many"]
theorem sc_law : FnScope N_law ["_law_script"] (defScope s_law) := ⟨rfl, rfl, rfl, by decide +kernel, rfl, by decide +kernel, by decide +kernel⟩
abbrev s_File___init__ : Stmt := inClass (topS 38) 1
abbrev N_File___init__ : List Str := ["self", "name", "data", "mode", "time"]
theorem sc_File___init__ : FnScope N_File___init__ ["self", "name", "data", "mode", "time"] (defScope s_File___init__) := ⟨rfl, rfl, rfl, by decide +kernel, rfl, by decide +kernel, by decide +kernel⟩
abbrev s_Directory___init__ : Stmt := inClass (topS 40) 1
abbrev N_Directory___init__ : List Str := ["self", "name", "mode", "time"]
theorem sc_Directory___init__ : FnScope N_Directory___init__ ["self", "name", "mode", "time"] (defScope s_Directory___init__) := ⟨rfl, rfl, rfl, by decide +kernel, rfl, by decide +kernel, by decide +kernel⟩
abbrev s_Symlink___init__ : Stmt := inClass (topS 41) 1
abbrev N_Symlink___init__ : List Str := ["self", "name", "target", "mode", "time"]
theorem sc_Symlink___init__ : FnScope N_Symlink___init__ ["self", "name", "target", "mode", "time"] (defScope s_Symlink___init__) := ⟨rfl, rfl, rfl, by decide +kernel, rfl, by decide +kernel, by decide +kernel⟩
abbrev s_Link___init__ : Stmt := inClass (topS 42) 1
abbrev N_Link___init__ : List Str := ["self", "name", "target", "mode", "time"]
theorem sc_Link___init__ : FnScope N_Link___init__ ["self", "name", "target", "mode", "time"] (defScope s_Link___init__) := ⟨rfl, rfl, rfl, by decide +kernel, rfl, by decide +kernel, by decide +kernel⟩
abbrev s_Sparse___init__ : Stmt := inClass (topS 39) 1
abbrev N_Sparse___init__ : List Str := ["self", "name", "size", "mode", "time", "pieces"]
theorem sc_Sparse___init__ : FnScope N_Sparse___init__ ["self", "name", "size", "mode", "time", "pieces"] (defScope s_Sparse___init__) := ⟨rfl, rfl, rfl, by decide +kernel, rfl, by decide +kernel, by decide +kernel⟩
abbrev s_check_name : Stmt := topS 33
abbrev N_check_name : List Str := ["thing"]
theorem sc_check_name : FnScope N_check_name ["thing"] (defScope s_check_name) := ⟨rfl, rfl, rfl, by decide +kernel, rfl, by decide +kernel, by decide +kernel⟩
abbrev s_check_data : Stmt := topS 34
abbrev N_check_data : List Str := ["thing"]
theorem sc_check_data : FnScope N_check_data ["thing"] (defScope s_check_data) := ⟨rfl, rfl, rfl, by decide +kernel, rfl, by decide +kernel, by decide +kernel⟩
abbrev s_check_pieces : Stmt := topS 35
abbrev N_check_pieces : List Str := ["size", "pieces"]
theorem sc_check_pieces : FnScope N_check_pieces ["size", "pieces"] (defScope s_check_pieces) := ⟨rfl, rfl, rfl, by decide +kernel, rfl, by decide +kernel, by decide +kernel⟩
abbrev s_are_pieces : Stmt := topS 30
abbrev N_are_pieces : List Str := ["size", "pieces", "offset", "data", "piece"]
theorem sc_are_pieces : FnScope N_are_pieces ["size", "pieces"] (defScope s_are_pieces) := ⟨rfl, rfl, rfl, by decide +kernel, rfl, by decide +kernel, by decide +kernel⟩
abbrev s_is_piece : Stmt := topS 31
abbrev N_is_piece : List Str := ["thing"]
theorem sc_is_piece : FnScope N_is_piece ["thing"] (defScope s_is_piece) := ⟨rfl, rfl, rfl, by decide +kernel, rfl, by decide +kernel, by decide +kernel⟩
abbrev s_check_mode_and_time : Stmt := topS 36
abbrev N_check_mode_and_time : List Str := ["mode", "time"]
theorem sc_check_mode_and_time : FnScope N_check_mode_and_time ["mode", "time"] (defScope s_check_mode_and_time) := ⟨rfl, rfl, rfl, by decide +kernel, rfl, by decide +kernel, by decide +kernel⟩
abbrev s_target_of : Stmt := topS 43
abbrev N_target_of : List Str := ["member"]
theorem sc_target_of : FnScope N_target_of ["member"] (defScope s_target_of) := ⟨rfl, rfl, rfl, by decide +kernel, rfl, by decide +kernel, by decide +kernel⟩
/-- the state of the drawing: three ints -/
def Src (H : Hp) (a : Addr) : Prop := ∃ l m c : Int, H a = some (.lst [.int l, .int m, .int c]) ∧ True
/-- no more than n draws until now -/
def SrcB (n : Nat) (H : Hp) (a : Addr) : Prop := ∃ l m : Int, ∃ c : Nat, H a = some (.lst [.int l, .int m, .int (c : Int)]) ∧ 0 ≤ l ∧ 0 ≤ m ∧ m < 2305843009213693951 ∧ c ≤ n
theorem SrcB.src {n : Nat} {H : Hp} {a : Addr} (h : SrcB n H a) : Src H a := by
  obtain ⟨l, m, c, g, _⟩ := h
  exact ⟨_, _, _, g, True.intro⟩
theorem SrcB.mono {n m : Nat} {H : Hp} {a : Addr} (h : SrcB n H a) (e : n ≤ m) : SrcB m H a := by
  obtain ⟨l, q, c, g, a1, a2, a3, a4⟩ := h
  exact ⟨l, q, c, g, a1, a2, a3, Nat.le_trans a4 e⟩
def CPowW (i j : Int) : Prop := 0 ≤ j ∧ ((Builtin.Int.intBits i : Nat) : Int) * j ≤ 2 ^ 27
theorem op_powW {X : Cx} : OpR X (binaryOp .Pow) (rI CPowW fun i j => V.int (i ^ j.toNat)) := opI fun _ _ _ _ _ _ _ hc q => pow_int hc.1 hc.2 q
theorem bits_le {a : Int} {b : Nat} (h : a.natAbs < 2 ^ b) : Builtin.Int.intBits a ≤ b := by
  unfold Builtin.Int.intBits
  split
  · exact Nat.zero_le _
  · rename_i e
    have : a.natAbs ≠ 0 := fun g => e (by rw [Int.natAbs_eq_zero.mp g]; rfl)
    exact (Nat.log2_lt this).mpr h
theorem base_ok {m : Int} {c : Nat} (h0 : 0 ≤ m) (h1 : m < 2305843009213693951) (h2 : c ≤ 1000000) : CPowW ((m + 50021 * ((c : Int) + 1)) * (2 * ((c : Int) + 1) + 3) + 6151 * ((c : Int) + 1) * ((c : Int) + 1)) 3 := by
  obtain ⟨A, ea⟩ : ∃ A, m + 50021 * ((c : Int) + 1) = A := ⟨_, rfl⟩
  obtain ⟨B, eb⟩ : ∃ B, 2 * ((c : Int) + 1) + 3 = B := ⟨_, rfl⟩
  obtain ⟨D, ed⟩ : ∃ D, 6151 * ((c : Int) + 1) = D := ⟨_, rfl⟩
  obtain ⟨F, ef⟩ : ∃ F, (c : Int) + 1 = F := ⟨_, rfl⟩
  rw [ea, eb, ed, ef]
  have p1 : A * B ≤ 4611686018427387904 * 2097152 := Int.mul_le_mul (by omega) (by omega) (by omega) (by decide)
  have p0 : 0 ≤ A * B := Int.mul_nonneg (by omega) (by omega)
  have p2 : D * F ≤ 4611686018427387904 * 2097152 := Int.mul_le_mul (by omega) (by omega) (by omega) (by decide)
  have p3 : 0 ≤ D * F := Int.mul_nonneg (by omega) (by omega)
  have t : (A * B + D * F).natAbs < 2 ^ 100 := by
    generalize A * B = X at *
    generalize D * F = Y at *
    omega
  have := bits_le t
  exact ⟨by decide, by omega⟩
def primes7 : List Int := [2147483647, 2147483629, 2147483587, 2147483579, 2147483563, 2147483549, 2147483543]
theorem prime7 {k : Int} (h0 : 0 ≤ k) (h1 : k < 7) : ∃ v : Int, atI (primes7.map V.int) k = some (.int v) ∧ 2147483543 ≤ v ∧ v ≤ 2147483647 := by
  rcases (by omega : k = 0 ∨ k = 1 ∨ k = 2 ∨ k = 3 ∨ k = 4 ∨ k = 5 ∨ k = 6) with rfl | rfl | rfl | rfl | rfl | rfl | rfl <;> exact ⟨_, rfl, by decide, by decide⟩
def spDraw : Sp := fun vs H Q _ => ∃ (a : Addr) (n : Int) (u : Nat), vs = [.ref a, .int n] ∧ SrcB u H a ∧ u < 1000000 ∧ 0 < n ∧ n < 1000000000000 ∧ ∀ (d : Int) H', 0 ≤ d → d < n → SrcB (u + 1) H' a → But a H H' → Q (.int d) H'
theorem sp_draw {a : Addr} {n : Int} {u : Nat} {H : Hp} {Q : VK} {E : XK} (h : SrcB u H a) (hu : u < 1000000) (h0 : 0 < n) (h1 : n < 1000000000000) (k : ∀ (d : Int) H', 0 ≤ d → d < n → SrcB (u + 1) H' a → But a H H' → Q (.int d) H') : spDraw ([.ref a, .int n] ++ []) H Q E := ⟨a, n, u, rfl, h, hu, h0, h1, k⟩
section
variable {P : Program} {w : World} {K : PySem.W.Frag} {mg : Str → Option Value} {base : Heap}
theorem ok_draw {f : Addr} {fd : FuncData} {k : Nat} (F : Fun K "_law_draw" "_law_draw" s__law_draw f fd) (mi : mg "int" = none) : FnOk P w K mg base CX0 (k + 2) f fd ["_law_source_here", "_law_many"] spDraw := by
  refine F.ok sc__law_draw (fun vs H Q E h => ?_) (fun cdv A outer s H vs Q E hr h => ?_)
  · obtain ⟨a, n, u, rfl, _⟩ := h
    rfl
  · obtain ⟨a, n, u, rfl, ⟨l, m, c, ha, hl0, hm0, hm1, hcu⟩, hu9, hn0, hn1, q⟩ := h
    have hu := hu_of hr
    have nd := sc__law_draw.nd
    refine ⟨_, (pss_cons (ps_if (pt_cmpR op_gt (pe_ix (ix_listK K) (pv 0) pe_int (fun _ _ => rfl)) pe_int (nomark _))
        (pss_cons (ps_set (i := 2) nd rfl (Or.inl rfl) (pe_op op_mod (pe_callTy call_rInt1 (by rfl) (by assumption) (by decide +kernel) (pa_cons (pe_ix (ix_listK K) (pv 0) pe_int (fun _ _ => rfl)) pa_nil)) (pv 1)))
      (pss_cons (ps_asg (pe_op op_fdivW (pe_ix (ix_listK K) (pv 0) pe_int (fun _ _ => rfl)) (pv 1)) (pg_sub (pv 0) pe_int set_list))
      (pss_one (ps_ret (pv 2)))))
        pss_nil)
      (pss_cons (ps_set (i := 3) nd rfl (Or.inl rfl) (pe_tup (pa_cons pe_int (pa_cons pe_int (pa_cons pe_int (pa_cons pe_int (pa_cons pe_int (pa_cons pe_int (pa_cons pe_int pa_nil)))))))))
      (pss_cons (ps_asg (pe_op op_add (pe_ix (ix_listK K) (pv 0) pe_int (fun _ _ => rfl)) pe_int) (pg_sub (pv 0) pe_int set_list))
      (pss_cons (ps_set (i := 4) nd rfl (Or.inl rfl) (pe_ix (ix_listK K) (pv 0) pe_int (fun _ _ => rfl)))
      (pss_cons (ps_set (i := 5) nd rfl (Or.inl rfl) (pe_op op_add (pe_op op_mul (pe_op op_add (pe_ix (ix_listK K) (pv 0) pe_int (fun _ _ => rfl)) (pe_op op_mul pe_int (pv 4))) (pe_op op_add (pe_op op_mul pe_int (pv 4)) pe_int)) (pe_op op_mul (pe_op op_mul pe_int (pv 4)) (pv 4))))
      (pss_cons (ps_set (i := 6) nd rfl (Or.inl rfl) (pe_op op_mod (pe_callTy call_rInt1 (by rfl) (by assumption) (by decide +kernel) (pa_cons (pe_op op_powW (pv 5) pe_int) pa_nil)) (pe_ix (ix_tupK K) (pv 3) (pe_op op_mod (pe_callTy call_rInt1 (by rfl) (by assumption) (by decide +kernel) (pa_cons (pv 4) pa_nil)) pe_int) (fun _ _ => rfl))))
      (pss_cons (ps_set (i := 6) nd rfl (Or.inl rfl) (pe_op op_mod (pe_callTy call_rInt1 (by rfl) (by assumption) (by decide +kernel) (pa_cons (pe_op op_mul (pv 6) (pe_op op_add (pe_op op_add (pe_op op_fdivW (pv 6) pe_int) (pe_op op_mul pe_int (pv 4))) pe_int)) pa_nil)) (pe_ix (ix_tupK K) (pv 3) (pe_op op_mod (pe_callTy call_rInt1 (by rfl) (by assumption) (by decide +kernel) (pa_cons (pe_op op_add (pv 4) pe_int) pa_nil)) pe_int) (fun _ _ => rfl))))
      (pss_one (ps_ret (pe_op op_mod (pe_callTy call_rInt1 (by rfl) (by assumption) (by decide +kernel) (pa_cons (pe_op op_fdivW (pv 6) pe_int) pa_nil)) (pv 1))))))))))), ?_⟩
    walk_at "rd"
    refine r_iteD (fun h0 => ?_) (fun h0 => ?_)
    · walk_at "rd"
      refine q _ _ (Int.emod_nonneg _ (by omega)) (Int.emod_lt_of_pos _ hn0) ⟨l / n, m, c, upd_same, Int.ediv_nonneg hl0 (by omega), hm0, hm1, by omega⟩ (fun b o nb e => by rw [upd_ne nb]; exact e)
    · walk_at "rd"
      rename_i p hp
      have npa : p ≠ a := fun e => by rw [e, ha] at hp; cases hp
      have hb := base_ok hm0 hm1 (by omega : c ≤ 1000000)
      generalize (m + 50021 * ((c : Int) + 1)) * (2 * ((c : Int) + 1) + 3) + 6151 * ((c : Int) + 1) * ((c : Int) + 1) = X at hb ⊢
      refine r_I hb ?_
      walk_at "rd"
      obtain ⟨v, hv, v1, v2⟩ := prime7 (k := ((c : Int) + 1) % 7) (Int.emod_nonneg _ (by decide)) (Int.emod_lt_of_pos _ (by decide))
      refine r_ixT (SqT.of (by rw [upd_ne npa, upd_same]; rfl)) hv ?_
      walk_at "rd"
      have y0 : 0 ≤ X ^ Int.toNat 3 % v := Int.emod_nonneg _ (by omega)
      have y1 : X ^ Int.toNat 3 % v < v := Int.emod_lt_of_pos _ (by omega)
      generalize X ^ Int.toNat 3 % v = Y at y0 y1 ⊢
      refine r_I (.inl ⟨by omega, by omega⟩) ?_
      walk_at "rd"
      obtain ⟨v', hv', v1', v2'⟩ := prime7 (k := ((c : Int) + 1 + 2) % 7) (Int.emod_nonneg _ (by decide)) (Int.emod_lt_of_pos _ (by decide))
      refine r_ixT (SqT.of (by rw [upd_ne npa, upd_same]; rfl)) hv' ?_
      walk_at "rd"
      have e1 : ((c : Int) + 1) = ((c + 1 : Nat) : Int) := by push_cast; rfl
      refine q _ _ (Int.emod_nonneg _ (by omega)) (Int.emod_lt_of_pos _ hn0) ⟨l, m, c + 1, by rw [upd_same]; rfl, hl0, hm0, hm1, by omega⟩ (fun b o nb e => by rw [upd_ne nb, upd_ne (fun g => by rw [g, hp] at e; cases e)]; exact e)
/-! ### the program's defs -/
def spIsI : Sp := fun vs H Q _ => ∃ i : Int, vs = [.int i] ∧ Q (.bl true) H
theorem sp_isI {i : Int} {H : Hp} {Q : VK} {E : XK} (k : Q (.bl true) H) : spIsI ([.int i] ++ []) H Q E := ⟨i, rfl, k⟩
theorem ok_isI {f : Addr} {fd : FuncData} {k : Nat} (F : Fun K "is_integer" "is_integer" s_is_integer f fd) (m1 : mg "isinstance" = none) (m2 : mg "bool" = none) (m3 : mg "int" = none) : FnOk P w K mg base CX0 (k + 1) f fd ["thing"] spIsI := by
  refine F.ok sc_is_integer (fun vs H Q E h => ?_) (fun cdv A outer s H vs Q E hr h => ?_)
  · obtain ⟨i, rfl, _⟩ := h
    rfl
  · obtain ⟨i, rfl, q⟩ := h
    have hu := hu_of hr
    have nd := sc_is_integer.nd
    refine ⟨_, (pss_one (ps_ret (pe_and (pe_callB (call_isiK1 K) (by rfl) (by assumption) (by decide +kernel) (pa_cons (pv 0) (pa_cons (pe_bltn (v := .ty "int") (by rfl) (by assumption) (by decide +kernel) rfl) pa_nil))) (pe_one (pe_not (pe_callB (call_isiK1 K) (by rfl) (by assumption) (by decide +kernel) (pa_cons (pv 0) (pa_cons (pe_bltn (v := .ty "bool") (by rfl) (by assumption) (by decide +kernel) rfl) pa_nil)))))))), ?_⟩
    walk_at "rd"
    exact q
def spWithin : Sp := fun vs H Q _ => ∃ (i lo hi : Int), vs = [.int i, .int lo, .int hi] ∧ Q (.bl (decide (lo ≤ i) && decide (i ≤ hi))) H
theorem ok_within {f : Addr} {fd : FuncData} {k : Nat} (F : Fun K "is_integer_within" "is_integer_within" s_is_integer_within f fd) (c_isI : CalT P w K mg base 1 "is_integer" spIsI) : FnOk P w K mg base CX0 (k + 2) f fd ["thing", "least", "most"] spWithin := by
  refine F.ok sc_is_integer_within (fun vs H Q E h => ?_) (fun cdv A outer s H vs Q E hr h => ?_)
  · obtain ⟨i, lo, hi, rfl, _⟩ := h
    rfl
  · obtain ⟨i, lo, hi, rfl, q⟩ := h
    have hu := hu_of hr
    have nd := sc_is_integer_within.nd
    refine ⟨_, (pss_one (ps_ret (pe_and (pe_cc c_isI hr (by omega) (by rfl) (pa_cons (pv 0) pa_nil)) (pe_one (pe_chain op_le op_le (pv 1) (pv 0) (pv 2)))))), ?_⟩
    walk_at "rd"
    refine sp_isI ?_
    walk_at "rd"
    refine r_iteD (fun h1 => ?_) (fun h1 => ?_)
    · walk_at "rd"
      rw [decide_eq_true h1, Bool.true_and] at q
      exact q
    · walk_at "rd"
      rw [decide_eq_false h1, Bool.false_and] at q
      exact q
theorem sp_within {i lo hi : Int} {H : Hp} {Q : VK} {E : XK} (k : Q (.bl (decide (lo ≤ i) && decide (i ≤ hi))) H) : spWithin ([.int i, .int lo, .int hi] ++ []) H Q E := ⟨i, lo, hi, rfl, k⟩
end
section
variable {P : Program} {w : World} {K : PySem.W.Frag} {mg : Str → Option Value} {base : Heap}
def inByte (i : Int) : Bool := decide (0 ≤ i) && decide (i ≤ 255)
def spRow : Sp := fun vs H Q _ => ∃ (a : Addr) (ns : List Int), vs = [.ref a] ∧ H a = some (.lst (ns.map V.int)) ∧ ns.length ≤ 70000 ∧ ∀ H', Same H H' → Q (.bl (ns.all inByte)) H'
theorem ok_row {f : Addr} {fd : FuncData} {k : Nat} (F : Fun K "is_row_of_bytes" "is_row_of_bytes" s_is_row_of_bytes f fd) (c_within : CalT P w K mg base 2 "is_integer_within" spWithin)
    (m1 : mg "isinstance" = none) (m2 : mg "list" = none) (m3 : mg "tuple" = none) (m4 : mg "all" = none) : FnOk P w K mg base CX0 (k + 3) f fd ["thing"] spRow := by
  refine F.ok sc_is_row_of_bytes (fun vs H Q E h => ?_) (fun cdv A outer s H vs Q E hr h => ?_)
  · obtain ⟨a, ns, rfl, _⟩ := h
    rfl
  · obtain ⟨a, ns, rfl, ha, hz, q⟩ := h
    have hu := hu_of hr
    have nd := sc_is_row_of_bytes.nd
    refine ⟨_, (pss_cons (ps_if (pt_not (pt_val (pe_callB (call_isiK2 K) (by rfl) (by assumption) (by decide +kernel) (pa_cons (pv 0) (pa_cons (pe_tup (pa_cons (pe_bltn (v := .ty "list") (by rfl) (by assumption) (by decide +kernel) rfl) (pa_cons (pe_bltn (v := .ty "tuple") (by rfl) (by assumption) (by decide +kernel) rfl) pa_nil))) pa_nil)))))
        (pss_one (ps_ret pe_bl))
        pss_nil)
      (pss_one (ps_ret (pe_callB (call_allK K) (by rfl) (by assumption) (by decide +kernel) (pa_cons (pe_lc (own := [("number", 1)]) (g := (gName 1)) (tt := tYes) rfl nd (pi_list (pv 0)) (blkOk_by (N := N_is_row_of_bytes) (sc := defScope s_is_row_of_bytes) (by decide +kernel)) (fun _ _ _ _ _ => (pg_name (i := 1) nd rfl (Or.inl rfl))) (fun _ _ _ _ _ => pts_nil) (fun _ _ _ _ _ => (pe_cc c_within hr (by omega) (by rfl) (pa_cons (pv 1) (pa_cons pe_int (pa_cons pe_int pa_nil)))))) pa_nil))))), ?_⟩
    walk_at "rd"
    intro D hD
    refine lc_map (cs := ns) (enc := V.int) (f := fun i => V.bl (inByte i)) walk_list hD (Nat.lt_of_le_of_lt hz (by decide)) (fun H' e => SqL.of (e _ _ (by walk_at "lk"))) (fun x => rfl) ?_ ?_
    · intro c hc H' e Q' k'
      walk_at "rd"
      exact sp_within (k' _ (Same.refl _))
    · intro H' e hl
      walk_at "rd"
      refine r_all (bs := ns.map inByte) (by rw [List.map_map]; exact SqL.of hl) ?_
      have e2 : (ns.map inByte).all id = ns.all inByte := by rw [List.all_map]; rfl
      rw [e2]
      exact q H' (fun b o x => e b o (by walk_at "lk"))
theorem sp_row {a : Addr} {ns : List Int} {H : Hp} {Q : VK} {E : XK} (ha : H a = some (.lst (ns.map V.int))) (hz : ns.length ≤ 70000) (k : ∀ H', Same H H' → Q (.bl (ns.all inByte)) H') : spRow ([.ref a] ++ []) H Q E := ⟨a, ns, rfl, ha, hz, k⟩
def spBlob : Sp := fun vs H Q _ => ∃ (a : Addr) (ns : List Int), vs = [.ref a] ∧ H a = some (.lst (ns.map V.int)) ∧ ns.length ≤ 70000 ∧ ns.all inByte = true ∧ ∀ H', Same H H' → Q (.byt (byteArr ns)) H'
theorem sp_blob {a : Addr} {ns : List Int} {H : Hp} {Q : VK} {E : XK} (ha : H a = some (.lst (ns.map V.int))) (hz : ns.length ≤ 70000) (hb : ns.all inByte = true) (k : ∀ H', Same H H' → Q (.byt (byteArr ns)) H') : spBlob ([.ref a] ++ []) H Q E := ⟨a, ns, rfl, ha, hz, hb, k⟩
theorem ok_blob {f : Addr} {fd : FuncData} {k : Nat} (F : Fun K "blob" "blob" s_blob f fd) (c_row : CalT P w K mg base 3 "is_row_of_bytes" spRow) (m1 : mg "bytes" = none) : FnOk P w K mg base CX0 (k + 4) f fd ["numbers"] spBlob := by
  refine F.ok sc_blob (fun vs H Q E h => ?_) (fun cdv A outer s H vs Q E hr h => ?_)
  · obtain ⟨a, ns, rfl, _⟩ := h
    rfl
  · obtain ⟨a, ns, rfl, ha, hz, hb, q⟩ := h
    have hu := hu_of hr
    have nd := sc_blob.nd
    refine ⟨_, (pss_cons (ps_if (pt_not (pt_val (pe_cc c_row hr (by omega) (by rfl) (pa_cons (pv 0) pa_nil))))
        (pss_one ps_never)
        pss_nil)
      (pss_one (ps_ret (pe_bytesOf rfl (by rfl) (by assumption) (pv 0))))), ?_⟩
    walk_at "rd"
    refine sp_row ha hz (fun H' e => ?_)
    rw [hb]
    walk_at "rd"
    refine r_bytesL (SqL.of (e _ _ ha)) (fun n hn => ?_) (q H' e)
    have h1 := List.all_eq_true.mp hb n hn
    unfold inByte at h1
    simp only [Bool.and_eq_true, decide_eq_true_eq] at h1
    omega
/-! ### names -/
def NC : Str := "abcdefghijklmnopqrstuvwxyz0123456789._-/"
def nameB (z : Str) : Bool := decide (1 ≤ z.length) && decide (z.length ≤ 250) && z.cps.toList.all (fun c => decide (c ∈ NC.cps.toList))
def nameV : V → Bool
  | .str z => nameB z
  | _ => false
/-- a text of up to 5000 signs, or a value of another kind -/
def AnyS (K : PySem.W.Frag) (H : Hp) (x : V) : Prop := (∃ z : Str, x = .str z ∧ z.length ≤ 5000) ∨ (nameV x = false ∧ ∃ T, TyX K H x (.type T) ∧ kitB T "str" = some false)
theorem AnyS.same {H H' : Hp} {x : V} (e : Same H H') (h : AnyS K H x) : AnyS K H' x := by
  rcases h with h | ⟨h, T, h1, h2⟩
  · exact .inl h
  · exact .inr ⟨h, T, same_tyB e h1, h2⟩
def spName (K : PySem.W.Frag) : Sp := fun vs H Q _ => ∃ x, vs = [x] ∧ AnyS K H x ∧ ∀ H', Same H H' → Q (.bl (nameV x)) H'
theorem sp_name {x : V} {H : Hp} {Q : VK} {E : XK} (ha : AnyS K H x) (k : ∀ H', Same H H' → Q (.bl (nameV x)) H') : spName K ([x] ++ []) H Q E := ⟨x, rfl, ha, k⟩
theorem ok_name {f : Addr} {fd : FuncData} {k : Nat} {t1 t2 : Tok} (F : Fun K "is_name" "is_name" s_is_name f fd) (m1 : mg "isinstance" = none) (m2 : mg "str" = none) (m3 : mg "len" = none) (m4 : mg "all" = none)
    (m_MOST : mg "MOST_CHARACTERS" = some (.int 250 t1)) (m_NC : mg "NAME_CHARACTERS" = some (.str NC t2)) : FnOk P w K mg base CX0 (k + 2) f fd ["thing"] (spName K) := by
  refine F.ok sc_is_name (fun vs H Q E h => ?_) (fun cdv A outer s H vs Q E hr h => ?_)
  · obtain ⟨x, rfl, _⟩ := h
    rfl
  · obtain ⟨x, rfl, hx, q⟩ := h
    have hu := hu_of hr
    have nd := sc_is_name.nd
    refine ⟨_, (pss_cons (ps_if (PW.pt (pw_or (pt_not (pt_val (pe_callB (call_isiK1 K) (by rfl) (by assumption) (by decide +kernel) (pa_cons (pv 0) (pa_cons (pe_bltn (v := .ty "str") (by rfl) (by assumption) (by decide +kernel) rfl) pa_nil))))) (pw_or1 (pt_not (pt_chain op_le op_le pe_int (pe_callB call_rLenZ (by rfl) (by assumption) (by decide +kernel) (pa_cons (pv 0) pa_nil)) (pe_glob (v := .int 250) (by rfl) m_MOST (by first | exact rfl | exact ⟨_, rfl⟩)))))))
        (pss_one (ps_ret pe_bl))
        pss_nil)
      (pss_one (ps_ret (pe_callB (call_allK K) (by rfl) (by assumption) (by decide +kernel) (pa_cons (pe_lc (own := [("character", 1)]) (g := (gName 1)) (tt := tYes) rfl nd (pi_str (pv 0)) (blkOk_by (N := N_is_name) (sc := defScope s_is_name) (by decide +kernel)) (fun _ _ _ _ _ => (pg_name (i := 1) nd rfl (Or.inl rfl))) (fun _ _ _ _ _ => pts_nil) (fun _ _ _ _ _ => (pe_cmpR op_inSign (pv 1) (pe_glob (v := .str NC) (by rfl) m_NC (by first | exact rfl | exact ⟨_, rfl⟩)) (by rfl)))) pa_nil))))), ?_⟩
    rcases hx with ⟨z, rfl, hz⟩ | ⟨hx, T, h1, h2⟩
    · have hz' : z.length ≤ sizeLine := Nat.le_trans hz (by decide)
      have q' : ∀ H', Same H H' → Q (.bl (nameB z)) H' := q
      unfold nameB at q'
      walk_at "rd"
      refine r_iteD (fun h1 => ?_) (fun h1 => ?_)
      · walk_at "rd"
        refine r_iteN (fun h2 => ?_) (fun h2 => ?_)
        · walk_at "rd"
          have h3 : ¬ z.length ≤ 250 := by have := of_decide_eq_false h2; omega
          rw [decide_eq_false h3, Bool.and_false, Bool.false_and] at q'
          exact q' _ (Same.refl _)
        · walk_at "rd"
          intro D hD
          refine lc_map (cs := z.cps.toList) (enc := fun c => V.str ⟨#[c]⟩) (f := fun c => V.bl (decide (c ∈ NC.cps.toList))) walk_strC hD (by have : z.cps.size ≤ 5000 := hz; rw [Array.length_toList]; exact Nat.lt_of_le_of_lt this (by decide)) (fun H' e => True.intro) (fun x => rfl) ?_ ?_
          · intro c hc H' e Q' k'
            walk_at "rd"
            exact k' _ (Same.refl _)
          · intro H' e hl
            walk_at "rd"
            refine r_all (bs := z.cps.toList.map fun c => decide (c ∈ NC.cps.toList)) (by rw [List.map_map]; exact SqL.of hl) ?_
            have h3 : z.length ≤ 250 := by have := of_decide_eq_true h2; omega
            have h1' : 1 ≤ z.length := by omega
            rw [decide_eq_true h3, decide_eq_true h1', Bool.true_and, Bool.true_and] at q'
            have e2 : (z.cps.toList.map fun c => decide (c ∈ NC.cps.toList)).all id = z.cps.toList.all fun c => decide (c ∈ NC.cps.toList) := by rw [List.all_map]; rfl
            rw [e2]
            exact q' H' e
      · walk_at "rd"
        have h3 : ¬ 1 ≤ z.length := by omega
        rw [decide_eq_false h3, Bool.false_and, Bool.false_and] at q'
        exact q' _ (Same.refl _)
    · walk_at "rd"
      rw [hx] at q
      exact q _ (Same.refl _)
end
section
variable {P : Program} {w : World} {K : PySem.W.Frag} {mg : Str → Option Value} {base : Heap}
def spSource (K : PySem.W.Frag) : Sp := fun vs H Q _ => ∃ (a : Addr) (ns : List Int) (i : Nat), vs = [.ref a, .int (i : Int)] ∧ SqL K H a (ns.map V.int) ∧ ns.length ≤ 63 ∧ i ≤ 63 ∧ ∀ p H', H p = none → Same H H' → SrcB 0 H' p → Q (.ref p) H'
theorem sp_source {a : Addr} {ns : List Int} {i : Nat} {H : Hp} {Q : VK} {E : XK} (hs : SqL K H a (ns.map V.int)) (hz : ns.length ≤ 63) (hi : i ≤ 63) (k : ∀ p H', H p = none → Same H H' → SrcB 0 H' p → Q (.ref p) H') : spSource K ([.ref a, .int (i : Int)] ++ []) H Q E := ⟨a, ns, i, rfl, hs, hz, hi, k⟩
theorem ints_at {ns : List Int} {i : Nat} (h : i < ns.length) : (ns.map V.int)[i]? = some (.int ns[i]) := by rw [List.getElem?_map, List.getElem?_eq_getElem h]; rfl
theorem ok_source {f : Addr} {fd : FuncData} {k : Nat} (F : Fun K "_law_source" "_law_source" s__law_source f fd) (m1 : mg "len" = none) (m2 : mg "int" = none) (m3 : mg "abs" = none) :
    FnOk P w K mg base CX0 (k + 2) f fd ["_law_script", "_law_at"] (spSource K) := by
  refine F.ok sc__law_source (fun vs H Q E h => ?_) (fun cdv A outer s H vs Q E hr h => ?_)
  · obtain ⟨a, ns, i, rfl, _⟩ := h
    rfl
  · obtain ⟨a, ns, i, rfl, hS, hz, hi, q⟩ := h
    have hu := hu_of hr
    have nd := sc__law_source.nd
    have hml : (ns.map V.int).length = ns.length := List.length_map ..
    refine ⟨_, (pss_cons (ps_set (i := 2) nd rfl (Or.inl rfl) (pe_ifExp (pt_cmpR op_lt (pv 1) (pe_callB (call_lenK K) (by rfl) (by assumption) (by decide +kernel) (pa_cons (pv 0) pa_nil)) (nomark _)) (pe_ix (ix_listK K) (pv 0) (pv 1) (fun _ _ => rfl)) pe_int))
      (pss_cons (ps_set (i := 3) nd rfl (Or.inl rfl) (pe_ifExp (pt_cmpR op_ge (pe_callB call_rAbs (by rfl) (by assumption) (by decide +kernel) (pa_cons (pv 2) pa_nil)) (pe_op op_pow pe_int pe_int) (nomark _)) (pe_callB call_rAbs (by rfl) (by assumption) (by decide +kernel) (pa_cons (pv 2) pa_nil)) pe_int))
      (pss_cons (ps_set (i := 4) nd rfl (Or.inl rfl) (pe_op op_add (pe_op op_add (pe_op op_add (pe_op op_mod (pe_callTy call_rInt1 (by rfl) (by assumption) (by decide +kernel) (pa_cons (pv 2) pa_nil)) pe_int) (pe_op op_mul (pe_op op_mul pe_int (pv 1)) (pv 1))) (pe_op op_mul pe_int (pv 1))) pe_int))
      (pss_one (ps_ret (pe_lst (pa_cons (pv 3) (pa_cons (pe_op op_mod (pe_callTy call_rInt1 (by rfl) (by assumption) (by decide +kernel) (pa_cons (pv 4) pa_nil)) pe_int) (pa_cons pe_int pa_nil))))))))), ?_⟩
    walk_at "rd"
    refine r_joinI (fun _ => True) (fun cell _ => ?_) (fun Q' k h1 => ?_) (fun Q' k h1 => ?_)
    · walk_at "rd"
      refine r_joinI (fun large => 0 ≤ large) (fun large hl => ?_) (fun Q' k h1 => ?_) (fun Q' k h1 => ?_)
      · walk_at "rd"
        rename_i p hp
        exact q p _ hp (same_new hp) ⟨large, _, 0, upd_same, hl, Int.emod_nonneg _ (by decide), Int.emod_lt_of_pos _ (by decide), Nat.le_refl _⟩
      · walk_at "rd"
        exact k _ (by omega)
      · walk_at "rd"
        exact k _ (by decide)
    · have hi' : i < ns.length := by omega
      walk_at "rd"
      refine r_ixL hS (atI_nat (ints_at hi')) ?_
      exact k _ True.intro
    · walk_at "rd"
      exact k _ True.intro
end
theorem But.refl (a : Addr) (H : Hp) : But a H H := fun _ _ _ e => e
theorem But.trans {a : Addr} {H H1 H2 : Hp} (x : But a H H1) (y : But a H1 H2) : But a H H2 := fun b o n e => y b o n (x b o n e)
theorem But.new {a p : Addr} {H H' : Hp} {o : HO} (hp : H p = none) (y : But a (upd H p o) H') : But a H H' := fun b u n e => y b u n (upd_old hp e)
theorem Same.but {a : Addr} {H H' : Hp} (e : Same H H') : But a H H' := fun b o _ h => e b o h
theorem Src.same {H H' : Hp} {a : Addr} (e : Same H H') (h : Src H a) : Src H' a := by
  obtain ⟨l, m, c, h1, h2⟩ := h
  exact ⟨l, m, c, e _ _ h1, h2⟩
theorem SrcB.same {n : Nat} {H H' : Hp} {a : Addr} (e : Same H H') (h : SrcB n H a) : SrcB n H' a := by
  obtain ⟨l, m, c, h1, h2⟩ := h
  exact ⟨l, m, c, e _ _ h1, h2⟩
theorem SrcB.new {n : Nat} {H : Hp} {a p : Addr} {o : HO} (hp : H p = none) (h : SrcB n H a) : SrcB n (upd H p o) a := h.same (same_new hp)
theorem SrcB.ne {n : Nat} {H : Hp} {a p : Addr} (h : SrcB n H a) (hp : H p = none) : p ≠ a := by
  obtain ⟨l, m, c, h1, h2⟩ := h
  exact (ne_of_none h1 hp).symm
theorem Src.new {H : Hp} {a p : Addr} {o : HO} (hp : H p = none) (h : Src H a) : Src (upd H p o) a := h.same (same_new hp)
theorem Src.ne {H : Hp} {a p : Addr} (h : Src H a) (hp : H p = none) : p ≠ a := by
  obtain ⟨l, m, c, h1, h2⟩ := h
  exact (ne_of_none h1 hp).symm
theorem pick_at {xs : List V} {d : Int} (h0 : 0 ≤ d) (h1 : d < (xs.length : Int)) : ∃ v, v ∈ xs ∧ atI xs d = some v := by
  have hd : d.toNat < xs.length := by omega
  refine ⟨xs[d.toNat], List.getElem_mem hd, ?_⟩
  have e : d = (d.toNat : Int) := by omega
  have h := atI_nat (List.getElem?_eq_getElem hd)
  rw [← e] at h
  exact h
theorem len_add (x y : Str) : (x ++ y).length = x.length + y.length := by
  rw [← SX.S_tl x, ← SX.S_tl y, SX.S_cat, SX.S_len, SX.S_len, SX.S_len, List.length_append]
/-! ### the signs of names -/
def charsB (z : Str) : Bool := z.cps.toList.all fun c => decide (c ∈ NC.cps.toList)
theorem charsB_add {x y : Str} (hx : charsB x = true) (hy : charsB y = true) : charsB (x ++ y) = true := by
  unfold charsB at *
  have e : (x ++ y).cps.toList = x.cps.toList ++ y.cps.toList := TL.tl_append x y
  rw [e, List.all_append, hx, hy]
  rfl
theorem name_of {z : Str} (h1 : 1 ≤ z.length) (h2 : z.length ≤ 250) (hc : charsB z = true) : nameB z = true := by
  unfold nameB
  unfold charsB at hc
  rw [decide_eq_true h1, decide_eq_true h2, hc]
  rfl
theorem of_name {z : Str} (h : nameB z = true) : 1 ≤ z.length ∧ z.length ≤ 250 ∧ charsB z = true := by
  unfold nameB at h
  simp only [Bool.and_eq_true, decide_eq_true_eq] at h
  exact ⟨h.1.1, h.1.2, h.2⟩
/-! ### spans: pairs of an offset and a length -/
def SpanL (H : Hp) (L : Addr) (sp : List (Int × Int)) : Prop := ∃ as : List Addr, H L = some (.lst (as.map V.ref)) ∧ Paired (fun q (s : Int × Int) => H q = some (.tup [.int s.1, .int s.2])) as sp
def spansOk (size : Int) : Int → List (Int × Int) → Prop
  | _, [] => True
  | e, (b, n) :: r => e ≤ b ∧ 1 ≤ n ∧ b + n ≤ size ∧ spansOk size (b + n + 1) r
theorem SpanL.same {H H' : Hp} {L : Addr} {sp : List (Int × Int)} (e : Same H H') (h : SpanL H L sp) : SpanL H' L sp := by
  obtain ⟨as, h1, h2⟩ := h
  exact ⟨as, e _ _ h1, Paired.mapP h2 fun q s z => e _ _ z⟩
theorem SpanL.but {H H' : Hp} {L a : Addr} {sp : List (Int × Int)} (hs : Src H a) (e : But a H H') (h : SpanL H L sp) : SpanL H' L sp := by
  obtain ⟨as, h1, h2⟩ := h
  obtain ⟨l, m, c, ha, _⟩ := hs
  refine ⟨as, e _ _ ?_ h1, Paired.mapP h2 fun q s z => e _ _ ?_ z⟩
  · intro x
    rw [x, ha] at h1
    cases as with
    | nil => simp at h1
    | cons y ys => simp at h1
  · intro x
    rw [x, ha] at z
    cases z
theorem paired_snoc {α β : Type} {R : α → β → Prop} : ∀ {xs : List α} {ys : List β} {x : α} {y : β}, Paired R xs ys → R x y → Paired R (xs ++ [x]) (ys ++ [y])
  | _, _, _, _, .nil, h => .cons h .nil
  | _, _, _, _, .cons r t, h => .cons r (paired_snoc t h)
/-! ### the draws of names and numbers -/
theorem glue_ok : ∀ (r : List Str) (acc : Str), charsB acc = true → (∀ z ∈ r, charsB z = true) → charsB ⟨List.foldl (fun a p => a ++ ("/" : Str).cps ++ p.cps) acc.cps r⟩ = true ∧ (⟨List.foldl (fun a p => a ++ ("/" : Str).cps ++ p.cps) acc.cps r⟩ : Str).length = acc.length + (r.map fun z => z.length + 1).sum
  | [], acc, h, _ => ⟨h, rfl⟩
  | z :: r, acc, h, hz => by
    have g := glue_ok r (acc ++ "/" ++ z) (charsB_add (charsB_add h (by decide +kernel)) (hz z List.mem_cons_self)) fun y hy => hz y (List.mem_cons_of_mem _ hy)
    have e1 := len_add (acc ++ "/") z
    have e2 := len_add acc "/"
    have e3 : Str.length "/" = 1 := by decide +kernel
    refine ⟨g.1, ?_⟩
    show (⟨List.foldl (fun a p => a ++ ("/" : Str).cps ++ p.cps) (acc ++ "/" ++ z).cps r⟩ : Str).length = _
    rw [g.2, List.map_cons, List.sum_cons]
    omega
theorem sum_lens {m : Nat} : ∀ {r : List Str}, (∀ z ∈ r, z.length ≤ m) → (r.map fun z => z.length + 1).sum ≤ (m + 1) * r.length
  | [], _ => Nat.le_refl 0
  | z :: r, h => by
    have h1 := h z List.mem_cons_self
    have h2 := sum_lens fun y hy => h y (List.mem_cons_of_mem z hy)
    rw [List.map_cons, List.sum_cons, List.length_cons, Nat.mul_succ]
    omega
def rJoinS (K : PySem.W.Frag) : V → List V → Hp → VK → Prop := fun x xs H Q => ∃ a p, ∃ ys : List Str, x = .str a ∧ xs = [.ref p] ∧ (SqL K H p (ys.map V.str) ∨ SqT K H p (ys.map V.str)) ∧ (ys.map (·.length)).sum + ys.length * a.length ≤ 16777216 ∧ Q (.str (Txt.join a ys)) H
theorem mt_joinK {X : Cx} (K : PySem.W.Frag) (h : X.K = K := by rfl) : MtR X "str.join" (rJoinS K) := h ▸ mt_join
/-! ### a drawn member, as data -/
inductive Mem where
  | file (n : Str) (b t : Int) (ns : List Int)
  | sparse (n : Str) (b t z : Int) (sp : List (Int × List Int))
  | dir (n : Str) (b t : Int)
  | sym (n : Str) (b t : Int) (g : Str)
  | lnk (n : Str) (b t : Int) (g : Str)
def PiecesL (H : Hp) (d : Addr) (sp : List (Int × List Int)) : Prop := ∃ as : List Addr, H d = some (.lst (as.map V.ref)) ∧ Paired (fun q (s : Int × List Int) => ∃ e, H q = some (.tup [.int s.1, .ref e]) ∧ H e = some (.lst (s.2.map V.int))) as sp
theorem PiecesL.same {H H' : Hp} {d : Addr} {sp : List (Int × List Int)} (e : Same H H') (h : PiecesL H d sp) : PiecesL H' d sp := by
  obtain ⟨as, h1, h2⟩ := h
  exact ⟨as, e _ _ h1, Paired.mapP h2 fun q s ⟨x, z1, z2⟩ => ⟨x, e _ _ z1, e _ _ z2⟩⟩
def Mem.At (H : Hp) (p : Addr) : Mem → Prop
  | .file n b t ns => ∃ d, H p = some (.lst [.str "file", .str n, .int b, .int t, .ref d]) ∧ H d = some (.lst (ns.map V.int))
  | .sparse n b t z sp => ∃ d, H p = some (.lst [.str "sparse", .str n, .int b, .int t, .int z, .ref d]) ∧ PiecesL H d sp
  | .dir n b t => H p = some (.lst [.str "directory", .str n, .int b, .int t])
  | .sym n b t g => H p = some (.lst [.str "symlink", .str n, .int b, .int t, .str g])
  | .lnk n b t g => H p = some (.lst [.str "link", .str n, .int b, .int t, .str g])
theorem Mem.At.same {H H' : Hp} {p : Addr} {m : Mem} (e : Same H H') (h : m.At H p) : m.At H' p := by
  cases m with
  | file n b t ns => obtain ⟨d, h1, h2⟩ := h; exact ⟨d, e _ _ h1, e _ _ h2⟩
  | sparse n b t z sp => obtain ⟨d, h1, h2⟩ := h; exact ⟨d, e _ _ h1, h2.same e⟩
  | dir n b t => exact e _ _ h
  | sym n b t g => exact e _ _ h
  | lnk n b t g => exact e _ _ h
/-- the member at p, all of whose objects are new since H -/
def Mem.New (H H' : Hp) (p : Addr) (m : Mem) : Prop := ∀ H2, (∀ b o, H b = none → H' b = some o → H2 b = some o) → m.At H2 p
theorem Mem.New.at {H H' : Hp} {p : Addr} {m : Mem} (h : m.New H H' p) : m.At H' p := h H' fun _ _ _ e => e
theorem Mem.New.to {H H' H2 : Hp} {p : Addr} {m : Mem} (h : m.New H H' p) (y : ∀ b o, H b = none → H' b = some o → H2 b = some o) : m.New H H2 p := fun H3 z => h H3 fun b o n e => z b o n (y b o n e)
def stampOk (n : Str) (b t : Int) : Prop := nameB n = true ∧ 0 ≤ b ∧ b ≤ 4095 ∧ 0 ≤ t ∧ t ≤ 8589934591
def Mem.Ok : Mem → Prop
  | .file n b t ns => stampOk n b t ∧ ns.length ≤ 4096 ∧ ns.all inByte = true
  | .sparse n b t z sp => stampOk n b t ∧ 0 ≤ z ∧ z ≤ 4096 ∧ sp.length ≤ 50 ∧ spansOk z 0 (sp.map fun s => (s.1, (s.2.length : Int))) ∧ ∀ s ∈ sp, s.2.all inByte = true
  | .dir n b t => stampOk n b t
  | .sym n b t g => stampOk n b t ∧ nameB g = true
  | .lnk n b t g => stampOk n b t ∧ nameB g = true
theorem spansOk_all {z : Int} : ∀ {e : Int} {sp : List (Int × Int)}, 0 ≤ e → spansOk z e sp → ∀ s ∈ sp, 0 ≤ s.1 ∧ 1 ≤ s.2 ∧ s.1 + s.2 ≤ z
  | _, [], _, _, s, hs => nomatch hs
  | e, (b, n) :: r, h, k, s, hs => by
    rcases List.mem_cons.mp hs with rfl | hs
    · exact ⟨Int.le_trans h k.1, k.2.1, k.2.2.1⟩
    · exact spansOk_all (e := b + n + 1) (by have := k.1; have := k.2.1; omega) k.2.2.2 s hs
theorem paired_at {α β : Type} {R : α → β → Prop} : ∀ {xs : List α} {ys : List β}, Paired R xs ys → ∀ {i : Nat} {x : α}, xs[i]? = some x → ∃ y, ys[i]? = some y ∧ R x y
  | _, _, .nil, i, x, h => by simp at h
  | _, _, .cons r t, 0, x, h => by
    rw [List.getElem?_cons_zero] at h
    cases h
    exact ⟨_, rfl, r⟩
  | _, _, .cons r t, i + 1, x, h => by
    rw [List.getElem?_cons_succ] at h
    exact paired_at t h
theorem take_snoc {α : Type} {l : List α} {i : Nat} {x : α} (h : l[i]? = some x) : l.take (i + 1) = l.take i ++ [x] := by
  rw [List.take_add_one, h]
  rfl
section
variable {P : Program} {w : World} {K : PySem.W.Frag} {mg : Str → Option Value} {base : Heap}
/-- a member as a tuple -/
def Mem.Tu (H : Hp) (p : Addr) : Mem → Prop
  | .file n b t ns => ∃ d, H p = some (.tup [.str "file", .str n, .int b, .int t, .ref d]) ∧ H d = some (.lst (ns.map V.int))
  | .sparse n b t z sp => ∃ q d, H p = some (.tup [.str "sparse", .str n, .int b, .int t, .ref q]) ∧ H q = some (.tup [.int z, .ref d]) ∧ PiecesL H d sp
  | .dir n b t => H p = some (.tup [.str "directory", .str n, .int b, .int t])
  | .sym n b t g => H p = some (.tup [.str "symlink", .str n, .int b, .int t, .str g])
  | .lnk n b t g => H p = some (.tup [.str "link", .str n, .int b, .int t, .str g])
theorem Mem.Tu.same {H H' : Hp} {p : Addr} {m : Mem} (e : Same H H') (h : m.Tu H p) : m.Tu H' p := by
  cases m with
  | file n b t ns => obtain ⟨d, h1, h2⟩ := h; exact ⟨d, e _ _ h1, e _ _ h2⟩
  | sparse n b t z sp => obtain ⟨q, d, h1, h2, h3⟩ := h; exact ⟨q, d, e _ _ h1, e _ _ h2, h3.same e⟩
  | dir n b t => exact e _ _ h
  | sym n b t g => exact e _ _ h
  | lnk n b t g => exact e _ _ h
/-- the tuple at p, all of whose objects are new since H -/
def Mem.TuN (H H' : Hp) (p : Addr) (m : Mem) : Prop := ∀ H2, (∀ b o, H b = none → H' b = some o → H2 b = some o) → m.Tu H2 p
theorem Mem.TuN.at {H H' : Hp} {p : Addr} {m : Mem} (h : m.TuN H H' p) : m.Tu H' p := h H' fun _ _ _ e => e
theorem Mem.TuN.to {H H' H2 : Hp} {p : Addr} {m : Mem} (h : m.TuN H H' p) (y : ∀ b o, H b = none → H' b = some o → H2 b = some o) : m.TuN H H2 p := fun H3 z => h H3 fun b o n e => z b o n (y b o n e)
end
abbrev s_is_data : Stmt := topS 26
abbrev N_is_data : List Str := ["thing"]
theorem sc_is_data : FnScope N_is_data ["thing"] (defScope s_is_data) := ⟨rfl, rfl, rfl, by decide +kernel, rfl, by decide +kernel, by decide +kernel⟩
abbrev s_is_size : Stmt := topS 27
abbrev N_is_size : List Str := ["thing"]
theorem sc_is_size : FnScope N_is_size ["thing"] (defScope s_is_size) := ⟨rfl, rfl, rfl, by decide +kernel, rfl, by decide +kernel, by decide +kernel⟩
abbrev s_is_mode : Stmt := topS 28
abbrev N_is_mode : List Str := ["thing"]
theorem sc_is_mode : FnScope N_is_mode ["thing"] (defScope s_is_mode) := ⟨rfl, rfl, rfl, by decide +kernel, rfl, by decide +kernel, by decide +kernel⟩
abbrev s_is_time : Stmt := topS 29
abbrev N_is_time : List Str := ["thing"]
theorem sc_is_time : FnScope N_is_time ["thing"] (defScope s_is_time) := ⟨rfl, rfl, rfl, by decide +kernel, rfl, by decide +kernel, by decide +kernel⟩
abbrev s_are_spans : Stmt := topS 32
abbrev N_are_spans : List Str := ["size", "spans", "least", "offset", "length"]
theorem sc_are_spans : FnScope N_are_spans ["size", "spans"] (defScope s_are_spans) := ⟨rfl, rfl, rfl, by decide +kernel, rfl, by decide +kernel, by decide +kernel⟩
theorem paired_mapR {α β γ : Type} {R : α → γ → Prop} {g : β → γ} : ∀ {xs : List α} {ys : List β}, Paired (fun x y => R x (g y)) xs ys → Paired R xs (ys.map g)
  | _, _, .nil => .nil
  | _, _, .cons r t => .cons r (paired_mapR t)
/-! ### the checks, where nothing is refused -/
section
variable {P : Program} {w : World} {K : PySem.W.Frag} {mg : Str → Option Value} {base : Heap}
def spCName : Sp := fun vs H Q _ => ∃ z : Str, vs = [.str z] ∧ nameB z = true ∧ ∀ H', Same H H' → Q .non H'
theorem sp_cname {z : Str} {H : Hp} {Q : VK} {E : XK} (h : nameB z = true) (k : ∀ H', Same H H' → Q .non H') : spCName ([.str z] ++ []) H Q E := ⟨z, rfl, h, k⟩
theorem ok_cname {f : Addr} {fd : FuncData} {k : Nat} (F : Fun K "check_name" "check_name" s_check_name f fd) (c_is_name : CalT P w K mg base 2 "is_name" (spName K)) : FnOk P w K mg base CX0 (k + 3) f fd ["thing"] spCName := by
  refine F.ok sc_check_name (fun vs H Q E h => ?_) (fun cdv A outer s H vs Q E hr h => ?_)
  · obtain ⟨z, rfl, _⟩ := h
    rfl
  · obtain ⟨z, rfl, hz, q⟩ := h
    have hu := hu_of hr
    have nd := sc_check_name.nd
    have hl : z.length ≤ 5000 := by have := (of_name hz).2.1; omega
    refine ⟨_, (pss_one (ps_if (pt_not (pt_val (pe_cc c_is_name hr (by omega) (by rfl) (pa_cons (pv 0) pa_nil))))
        (pss_one ps_never)
        pss_nil)), ?_⟩
    walk_at "rd"
    refine sp_name (.inl ⟨z, rfl, hl⟩) (fun H1 e1 => ?_)
    have hv : nameV (.str z) = true := hz
    rw [hv]
    walk_at "rd"
    exact q _ e1
def spIsData : Sp := fun vs H Q _ => ∃ y : Array UInt8, vs = [.byt y] ∧ y.size ≤ 4096 ∧ Q (.bl true) H
theorem sp_isdata {y : Array UInt8} {H : Hp} {Q : VK} {E : XK} (h : y.size ≤ 4096) (k : Q (.bl true) H) : spIsData ([.byt y] ++ []) H Q E := ⟨y, rfl, h, k⟩
theorem ok_isdata {f : Addr} {fd : FuncData} {k : Nat} {t1 : Tok} (F : Fun K "is_data" "is_data" s_is_data f fd) (m1 : mg "isinstance" = none) (m2 : mg "bytes" = none) (m3 : mg "len" = none) (m_MB : mg "MOST_BYTES" = some (.int 4096 t1)) : FnOk P w K mg base CX0 (k + 2) f fd ["thing"] spIsData := by
  refine F.ok sc_is_data (fun vs H Q E h => ?_) (fun cdv A outer s H vs Q E hr h => ?_)
  · obtain ⟨z, rfl, _⟩ := h
    rfl
  · obtain ⟨y, rfl, hz, q⟩ := h
    have hu := hu_of hr
    have nd := sc_is_data.nd
    refine ⟨_, (pss_one (ps_ret (pe_and (pe_callB (call_isiK1 K) (by rfl) (by assumption) (by decide +kernel) (pa_cons (pv 0) (pa_cons (pe_bltn (v := .ty "bytes") (by rfl) (by assumption) (by decide +kernel) rfl) pa_nil))) (pe_one (pe_cmpR op_le (pe_callB call_rLenY (by rfl) (by assumption) (by decide +kernel) (pa_cons (pv 0) pa_nil)) (pe_glob (v := .int 4096) (by rfl) m_MB (by first | exact rfl | exact ⟨_, rfl⟩)) (nomark _)))))), ?_⟩
    walk_at "rd"
    rw [decide_eq_true (by omega : (y.size : Int) ≤ 4096)]
    exact q
def spCData : Sp := fun vs H Q _ => ∃ y : Array UInt8, vs = [.byt y] ∧ y.size ≤ 4096 ∧ ∀ H', Same H H' → Q .non H'
theorem sp_cdata {y : Array UInt8} {H : Hp} {Q : VK} {E : XK} (h : y.size ≤ 4096) (k : ∀ H', Same H H' → Q .non H') : spCData ([.byt y] ++ []) H Q E := ⟨y, rfl, h, k⟩
theorem ok_cdata {f : Addr} {fd : FuncData} {k : Nat} (F : Fun K "check_data" "check_data" s_check_data f fd) (c_isdata : CalT P w K mg base 2 "is_data" spIsData) : FnOk P w K mg base CX0 (k + 3) f fd ["thing"] spCData := by
  refine F.ok sc_check_data (fun vs H Q E h => ?_) (fun cdv A outer s H vs Q E hr h => ?_)
  · obtain ⟨z, rfl, _⟩ := h
    rfl
  · obtain ⟨y, rfl, hz, q⟩ := h
    have hu := hu_of hr
    have nd := sc_check_data.nd
    refine ⟨_, (pss_one (ps_if (pt_not (pt_val (pe_cc c_isdata hr (by omega) (by rfl) (pa_cons (pv 0) pa_nil))))
        (pss_one ps_never)
        pss_nil)), ?_⟩
    walk_at "rd"
    refine sp_isdata hz ?_
    walk_at "rd"
    exact q _ (Same.refl _)
def spIn (lo hi : Int) : Sp := fun vs H Q _ => ∃ i : Int, vs = [.int i] ∧ Q (.bl (decide (lo ≤ i) && decide (i ≤ hi))) H
theorem sp_in {lo hi i : Int} {H : Hp} {Q : VK} {E : XK} (h0 : lo ≤ i) (h1 : i ≤ hi) (k : Q (.bl true) H) : spIn lo hi ([.int i] ++ []) H Q E := ⟨i, rfl, by rw [decide_eq_true h0, decide_eq_true h1]; exact k⟩
theorem ok_issize {f : Addr} {fd : FuncData} {k : Nat} {t1 : Tok} (F : Fun K "is_size" "is_size" s_is_size f fd) (m_MB : mg "MOST_BYTES" = some (.int 4096 t1)) (c_within : CalT P w K mg base 2 "is_integer_within" spWithin) : FnOk P w K mg base CX0 (k + 3) f fd ["thing"] (spIn 0 4096) := by
  refine F.ok sc_is_size (fun vs H Q E h => ?_) (fun cdv A outer s H vs Q E hr h => ?_)
  · obtain ⟨z, rfl, _⟩ := h
    rfl
  · obtain ⟨y, rfl, q⟩ := h
    have hu := hu_of hr
    have nd := sc_is_size.nd
    refine ⟨_, (pss_one (ps_ret (pe_cc c_within hr (by omega) (by rfl) (pa_cons (pv 0) (pa_cons pe_int (pa_cons (pe_glob (v := .int 4096) (by rfl) m_MB (by first | exact rfl | exact ⟨_, rfl⟩)) pa_nil)))))), ?_⟩
    walk_at "rd"
    refine sp_within ?_
    exact q
theorem ok_ismode {f : Addr} {fd : FuncData} {k : Nat} {t1 : Tok} (F : Fun K "is_mode" "is_mode" s_is_mode f fd) (m_LM : mg "LAST_MODE" = some (.int 4095 t1)) (c_within : CalT P w K mg base 2 "is_integer_within" spWithin) : FnOk P w K mg base CX0 (k + 3) f fd ["thing"] (spIn 0 4095) := by
  refine F.ok sc_is_mode (fun vs H Q E h => ?_) (fun cdv A outer s H vs Q E hr h => ?_)
  · obtain ⟨z, rfl, _⟩ := h
    rfl
  · obtain ⟨y, rfl, q⟩ := h
    have hu := hu_of hr
    have nd := sc_is_mode.nd
    refine ⟨_, (pss_one (ps_ret (pe_cc c_within hr (by omega) (by rfl) (pa_cons (pv 0) (pa_cons pe_int (pa_cons (pe_glob (v := .int 4095) (by rfl) m_LM (by first | exact rfl | exact ⟨_, rfl⟩)) pa_nil)))))), ?_⟩
    walk_at "rd"
    refine sp_within ?_
    exact q
theorem ok_istime {f : Addr} {fd : FuncData} {k : Nat} {t1 : Tok} (F : Fun K "is_time" "is_time" s_is_time f fd) (m_LT : mg "LAST_TIME" = some (.int 8589934591 t1)) (c_within : CalT P w K mg base 2 "is_integer_within" spWithin) : FnOk P w K mg base CX0 (k + 3) f fd ["thing"] (spIn 0 8589934591) := by
  refine F.ok sc_is_time (fun vs H Q E h => ?_) (fun cdv A outer s H vs Q E hr h => ?_)
  · obtain ⟨z, rfl, _⟩ := h
    rfl
  · obtain ⟨y, rfl, q⟩ := h
    have hu := hu_of hr
    have nd := sc_is_time.nd
    refine ⟨_, (pss_one (ps_ret (pe_cc c_within hr (by omega) (by rfl) (pa_cons (pv 0) (pa_cons pe_int (pa_cons (pe_glob (v := .int 8589934591) (by rfl) m_LT (by first | exact rfl | exact ⟨_, rfl⟩)) pa_nil)))))), ?_⟩
    walk_at "rd"
    refine sp_within ?_
    exact q
def spStamp : Sp := fun vs H Q _ => ∃ b t : Int, vs = [.int b, .int t] ∧ 0 ≤ b ∧ b ≤ 4095 ∧ 0 ≤ t ∧ t ≤ 8589934591 ∧ ∀ H', Same H H' → Q .non H'
theorem sp_stamp {b t : Int} {H : Hp} {Q : VK} {E : XK} (h0 : 0 ≤ b) (h1 : b ≤ 4095) (h2 : 0 ≤ t) (h3 : t ≤ 8589934591) (k : ∀ H', Same H H' → Q .non H') : spStamp ([.int b, .int t] ++ []) H Q E := ⟨b, t, rfl, h0, h1, h2, h3, k⟩
theorem ok_stamp {f : Addr} {fd : FuncData} {k : Nat} (F : Fun K "check_mode_and_time" "check_mode_and_time" s_check_mode_and_time f fd) (c_ismode : CalT P w K mg base 3 "is_mode" (spIn 0 4095)) (c_istime : CalT P w K mg base 3 "is_time" (spIn 0 8589934591)) : FnOk P w K mg base CX0 (k + 4) f fd ["mode", "time"] spStamp := by
  refine F.ok sc_check_mode_and_time (fun vs H Q E h => ?_) (fun cdv A outer s H vs Q E hr h => ?_)
  · obtain ⟨b, t, rfl, _⟩ := h
    rfl
  · obtain ⟨b, t, rfl, h0, h1, h2, h3, q⟩ := h
    have hu := hu_of hr
    have nd := sc_check_mode_and_time.nd
    refine ⟨_, (pss_cons (ps_if (pt_not (pt_val (pe_cc c_ismode hr (by omega) (by rfl) (pa_cons (pv 0) pa_nil))))
        (pss_one ps_never)
        pss_nil)
      (pss_one (ps_if (pt_not (pt_val (pe_cc c_istime hr (by omega) (by rfl) (pa_cons (pv 1) pa_nil))))
        (pss_one ps_never)
        pss_nil))), ?_⟩
    walk_at "rd"
    refine sp_in h0 h1 ?_
    walk_at "rd"
    refine sp_in h2 h3 ?_
    walk_at "rd"
    exact q _ (Same.refl _)
/-! ### pieces, as the program has them: a tuple of pairs of an int and bytes -/
def PcsT (H : Hp) (p : Addr) (ps : List (Int × Array UInt8)) : Prop := ∃ as : List Addr, H p = some (.tup (as.map V.ref)) ∧ Paired (fun q (s : Int × Array UInt8) => H q = some (.tup [.int s.1, .byt s.2])) as ps
def pcsOk (z : Int) (ps : List (Int × Array UInt8)) : Prop := spansOk z 0 (ps.map fun s => (s.1, (s.2.size : Int)))
theorem PcsT.same {H H' : Hp} {p : Addr} {ps : List (Int × Array UInt8)} (e : Same H H') (h : PcsT H p ps) : PcsT H' p ps := by
  obtain ⟨as, h1, h2⟩ := h
  exact ⟨as, e _ _ h1, Paired.mapP h2 fun q s z => e _ _ z⟩
def spPiece : Sp := fun vs H Q _ => ∃ (p : Addr) (o : Int) (y : Array UInt8), vs = [.ref p] ∧ H p = some (.tup [.int o, .byt y]) ∧ 0 ≤ o ∧ o ≤ 4096 ∧ Q (.bl true) H
theorem sp_piece {p : Addr} {o : Int} {y : Array UInt8} {H : Hp} {Q : VK} {E : XK} (hp : H p = some (.tup [.int o, .byt y])) (h1 : 0 ≤ o) (h2 : o ≤ 4096) (k : Q (.bl true) H) : spPiece ([.ref p] ++ []) H Q E := ⟨p, o, y, rfl, hp, h1, h2, k⟩
theorem ok_piece {f : Addr} {fd : FuncData} {k : Nat} {t1 : Tok} (F : Fun K "is_piece" "is_piece" s_is_piece f fd) (m1 : mg "isinstance" = none) (m2 : mg "tuple" = none) (m3 : mg "len" = none) (m4 : mg "bytes" = none) (m_MB : mg "MOST_BYTES" = some (.int 4096 t1)) (c_within : CalT P w K mg base 2 "is_integer_within" spWithin) :
    FnOk P w K mg base CX0 (k + 3) f fd ["thing"] spPiece := by
  refine F.ok sc_is_piece (fun vs H Q E h => ?_) (fun cdv A outer s H vs Q E hr h => ?_)
  · obtain ⟨p, o, y, rfl, _⟩ := h
    rfl
  · obtain ⟨p, o, y, rfl, hp, h1, h2, q⟩ := h
    have hu := hu_of hr
    have nd := sc_is_piece.nd
    refine ⟨_, (pss_cons (ps_if (PW.pt (pw_or (pt_not (pt_val (pe_callB (call_isiK1 K) (by rfl) (by assumption) (by decide +kernel) (pa_cons (pv 0) (pa_cons (pe_bltn (v := .ty "tuple") (by rfl) (by assumption) (by decide +kernel) rfl) pa_nil))))) (pw_or1 (pt_cmpR op_ne (pe_callB (call_lenK K) (by rfl) (by assumption) (by decide +kernel) (pa_cons (pv 0) pa_nil)) pe_int (nomark _)))))
        (pss_one (ps_ret pe_bl))
        pss_nil)
      (pss_one (ps_ret (pe_and (pe_cc c_within hr (by omega) (by rfl) (pa_cons (pe_ix (ix_tupK K) (pv 0) pe_int (fun _ _ => rfl)) (pa_cons pe_int (pa_cons (pe_glob (v := .int 4096) (by rfl) m_MB (by first | exact rfl | exact ⟨_, rfl⟩)) pa_nil)))) (pe_one (pe_callB (call_isiK1 K) (by rfl) (by assumption) (by decide +kernel) (pa_cons (pe_ix (ix_tupK K) (pv 0) pe_int (fun _ _ => rfl)) (pa_cons (pe_bltn (v := .ty "bytes") (by rfl) (by assumption) (by decide +kernel) rfl) pa_nil)))))))), ?_⟩
    walk_at "rd"
    refine sp_within ?_
    rw [decide_eq_true h1, decide_eq_true h2, Bool.true_and]
    walk_at "rd"
    exact q
/-! ### spans: a list of pairs of ints -/
def SpnL (H : Hp) (p : Addr) (sp : List (Int × Int)) : Prop := ∃ as : List Addr, H p = some (.lst (as.map V.ref)) ∧ Paired (fun q (s : Int × Int) => H q = some (.tup [.int s.1, .int s.2])) as sp
def spASpans : Sp := fun vs H Q _ => ∃ (z : Int) (p : Addr) (sp : List (Int × Int)), vs = [.int z, .ref p] ∧ SpnL H p sp ∧ spansOk z 0 sp ∧ z ≤ 4096 ∧ sp.length ≤ 50 ∧ ∀ H', Same H H' → Q (.bl true) H'
theorem sp_aspans {z : Int} {p : Addr} {sp : List (Int × Int)} {H : Hp} {Q : VK} {E : XK} (hp : SpnL H p sp) (h1 : spansOk z 0 sp) (h2 : z ≤ 4096) (h3 : sp.length ≤ 50) (k : ∀ H', Same H H' → Q (.bl true) H') : spASpans ([.int z, .ref p] ++ []) H Q E := ⟨z, p, sp, rfl, hp, h1, h2, h3, k⟩
theorem ok_aspans {f : Addr} {fd : FuncData} {k : Nat} {t1 : Tok} (F : Fun K "are_spans" "are_spans" s_are_spans f fd) (m3 : mg "len" = none) (m_MP : mg "MOST_PIECES" = some (.int 50 t1)) : FnOk P w K mg base CX0 (k + 2) f fd ["size", "spans"] spASpans := by
  refine F.ok sc_are_spans (fun vs H Q E h => ?_) (fun cdv A outer s H vs Q E hr h => ?_)
  · obtain ⟨z, p, ps, rfl, _⟩ := h
    rfl
  · obtain ⟨z, p, ps, rfl, ⟨as, hp, hpd⟩, hok, hz, hn, q⟩ := h
    have hu := hu_of hr
    have nd := sc_are_spans.nd
    have hlen : (as.map V.ref).length = ps.length := by rw [List.length_map]; exact hpd.length
    refine ⟨_, (pss_cons (ps_if (pt_cmpR op_gt (pe_callB (call_lenK K) (by rfl) (by assumption) (by decide +kernel) (pa_cons (pv 1) pa_nil)) (pe_glob (v := .int 50) (by rfl) m_MP (by first | exact rfl | exact ⟨_, rfl⟩)) (nomark _))
        (pss_one (ps_ret pe_bl))
        pss_nil)
      (pss_cons (ps_set (i := 2) nd rfl (Or.inl rfl) pe_int)
      (pss_cons (ps_for PassesOwn.never rfl (pi_list (pv 1)) (pg_tupK K (pg_tup rfl (pgs_cons (pg_name (i := 3) nd rfl (Or.inl rfl)) (pgs_cons (pg_name (i := 4) nd rfl (Or.inl rfl)) pgs_nil))))
        (pss_cons (ps_if (PW.pt (pw_or (pt_cmpR op_lt (pv 3) (pv 2) (nomark _)) (pw_or (pt_cmpR op_lt (pv 4) pe_int (nomark _)) (pw_or1 (pt_cmpR op_gt (pe_op op_add (pv 3) (pv 4)) (pv 0) (nomark _))))))
        (pss_one (ps_ret pe_bl))
        pss_nil)
      (pss_one (ps_set (i := 2) nd rfl (Or.inl rfl) (pe_op op_add (pe_op op_add (pv 3) (pv 4)) pe_int)))))
      (pss_one (ps_ret pe_bl))))), ?_⟩
    walk_at "rd"
    refine r_iteD (fun h => absurd h (by omega)) (fun _ => ?_)
    walk_at "rd"
    refine for_it (walk_list (xs := as.map V.ref)) (fun i σ H' => ∃ (l : Int) (v1 v2 : Option V), σ = [some (.int z), some (.ref p), some (.int l), v1, v2] ∧ Same H H' ∧ 0 ≤ l ∧ spansOk z l (ps.drop i)) ?_ (fun i σ H' _ ⟨_, _, _, _, e, _⟩ => SqL.of (e _ _ hp)) ?_ ?_
    · exact ⟨0, _, _, rfl, Same.refl _, Int.le_refl 0, hok⟩
    · rintro i x σ Hc H' hi ⟨l, v1, v2, rfl, e, hl, hs⟩ ⟨rfl, hx⟩
      rw [List.getElem?_map] at hx
      obtain ⟨qa, hqa, rfl⟩ : ∃ qa, as[i]? = some qa ∧ V.ref qa = x := by
        cases e : as[i]? with
        | none => rw [e] at hx; cases hx
        | some qa => rw [e] at hx; exact ⟨qa, rfl, Option.some.inj hx⟩
      obtain ⟨s, hsi, hqt⟩ := paired_at hpd hqa
      have hq' := e _ _ hqt
      have hdrop : ps.drop i = s :: ps.drop (i + 1) := by
        obtain ⟨hlt, hge⟩ := List.getElem?_eq_some_iff.mp hsi
        rw [← hge]
        exact List.drop_eq_getElem_cons hlt
      rw [hdrop] at hs
      obtain ⟨g1, g2, g3, g4⟩ := hs
      have g1' : l ≤ s.1 := g1
      have g2' : 1 ≤ s.2 := g2
      have g3' : s.1 + s.2 ≤ z := g3
      walk_at "rd"
      refine r_iteD (fun h => absurd h (by omega)) (fun _ => ?_)
      walk_at "rd"
      refine r_iteD (fun h => absurd h (by omega)) (fun _ => ?_)
      walk_at "rd"
      refine r_iteD (fun h => absurd h (by omega)) (fun _ => ?_)
      walk_at "rd"
      exact ⟨_, _, _, rfl, e, by omega, g4⟩
    · rintro σ Hc ⟨l, v1, v2, rfl, e, _⟩
      walk_at "rd"
      exact q _ e
def spAPieces : Sp := fun vs H Q _ => ∃ (z : Int) (p : Addr) (ps : List (Int × Array UInt8)), vs = [.int z, .ref p] ∧ PcsT H p ps ∧ pcsOk z ps ∧ z ≤ 4096 ∧ ps.length ≤ 50 ∧ ∀ H', Same H H' → Q (.bl true) H'
theorem sp_apieces {z : Int} {p : Addr} {ps : List (Int × Array UInt8)} {H : Hp} {Q : VK} {E : XK} (hp : PcsT H p ps) (h1 : pcsOk z ps) (h2 : z ≤ 4096) (h3 : ps.length ≤ 50) (k : ∀ H', Same H H' → Q (.bl true) H') : spAPieces ([.int z, .ref p] ++ []) H Q E := ⟨z, p, ps, rfl, hp, h1, h2, h3, k⟩
theorem ok_apieces {f : Addr} {fd : FuncData} {k : Nat} (F : Fun K "are_pieces" "are_pieces" s_are_pieces f fd) (m3 : mg "len" = none) (m4 : mg "all" = none) (c_piece : CalT P w K mg base 3 "is_piece" spPiece) (c_aspans : CalT P w K mg base 2 "are_spans" spASpans) :
    FnOk P w K mg base CX0 (k + 4) f fd ["size", "pieces"] spAPieces := by
  refine F.ok sc_are_pieces (fun vs H Q E h => ?_) (fun cdv A outer s H vs Q E hr h => ?_)
  · obtain ⟨z, p, ps, rfl, _⟩ := h
    rfl
  · obtain ⟨z, p, ps, rfl, ⟨as, hp, hpd⟩, hok, hz, hn, q⟩ := h
    have hu := hu_of hr
    have nd := sc_are_pieces.nd
    have hal : as.length = ps.length := hpd.length
    have hall : ∀ s ∈ ps, 0 ≤ s.1 ∧ 1 ≤ (s.2.size : Int) ∧ s.1 + (s.2.size : Int) ≤ z := fun s hs => spansOk_all (Int.le_refl 0) hok (s.1, (s.2.size : Int)) (List.mem_map.mpr ⟨s, hs, rfl⟩)
    refine ⟨_, (pss_cons (ps_if (pt_not (pt_val (pe_callB (call_allK K) (by rfl) (by assumption) (by decide +kernel) (pa_cons (pe_lc (own := [("piece", 4)]) (g := (gName 4)) (tt := tYes) rfl nd (pi_tup (pv 1)) (blkOk_by (N := N_are_pieces) (sc := defScope s_are_pieces) (by decide +kernel)) (fun _ _ _ _ _ => (pg_name (i := 4) nd rfl (Or.inl rfl))) (fun _ _ _ _ _ => pts_nil) (fun _ _ _ _ _ => (pe_cc c_piece hr (by omega) (by rfl) (pa_cons (pv 4) pa_nil)))) pa_nil))))
        (pss_one (ps_ret pe_bl))
        pss_nil)
      (pss_one (ps_ret (pe_cc c_aspans hr (by omega) (by rfl) (pa_cons (pv 0) (pa_cons (pe_lc (own := [("offset", 2), ("data", 3)]) (g := (gTup K 2 (gCons (gName 2) (gCons (gName 3) gNil)))) (tt := tYes) rfl nd (pi_tup (pv 1)) (blkOk_by (N := N_are_pieces) (sc := defScope s_are_pieces) (by decide +kernel)) (fun _ _ _ _ _ => (pg_tupK K (pg_tup rfl (pgs_cons (pg_name (i := 2) nd rfl (Or.inl rfl)) (pgs_cons (pg_name (i := 3) nd rfl (Or.inl rfl)) pgs_nil))))) (fun _ _ _ _ _ => pts_nil) (fun _ _ _ _ _ => (pe_tup (pa_cons (pv 2) (pa_cons (pe_callB call_rLenY (by rfl) (by assumption) (by decide +kernel) (pa_cons (pv 3) pa_nil)) pa_nil))))) pa_nil)))))), ?_⟩
    walk_at "rd"
    intro D hD
    refine lc_it (walk_tup (xs := as.map V.ref)) (fun i H' => Same H H' ∧ H' D = some (.lst ((List.replicate i true).map V.bl))) ⟨same_new hD, upd_same⟩ (fun i H' _ ⟨e, _⟩ => SqT.of (e _ _ hp)) ?_ ?_
    · rintro i x Hc H' hi ⟨e, hb⟩ ⟨rfl, hx⟩
      rw [List.getElem?_map] at hx
      obtain ⟨qa, hqa, rfl⟩ : ∃ qa, as[i]? = some qa ∧ V.ref qa = x := by
        cases e : as[i]? with
        | none => rw [e] at hx; cases hx
        | some qa => rw [e] at hx; exact ⟨qa, rfl, Option.some.inj hx⟩
      obtain ⟨s, hsi, hqt⟩ := paired_at hpd hqa
      have hq' := e _ _ hqt
      obtain ⟨a1, a2, a3⟩ := hall s (List.mem_of_getElem? hsi)
      rw [List.length_map] at hi
      walk_at "rd"
      refine ⟨rfl, ?_⟩
      unfold tYes
      dsimp only
      rw [if_pos rfl]
      walk_at "rd"
      refine sp_piece hq' a1 (by omega) ?_
      refine ⟨_, hb, ?_, fun b o eo => ?_, ?_⟩
      · rw [List.length_map, List.length_replicate]
        exact Nat.lt_of_lt_of_le (by omega : i < 51) (by decide)
      · rw [upd_ne (ne_of_none eo hD)]
        exact e _ _ eo
      · rw [upd_same, List.replicate_succ', List.map_append]
        rfl
    · rintro H1 ⟨e, hb⟩
      refine r_nil ?_
      refine r_all (bs := List.replicate (as.map V.ref).length true) (SqL.of hb) ?_
      rw [show (List.replicate (as.map V.ref).length true).all id = true from by simp [List.all_replicate]]
      have hp1 := e _ _ hp
      walk_at "rd"
      intro D2 hD2
      refine lc_it (walk_tup (xs := as.map V.ref)) (fun i H' => Same H1 H' ∧ ∃ bs : List Addr, H' D2 = some (.lst (bs.map V.ref)) ∧ Paired (fun q (s : Int × Array UInt8) => q ≠ D2 ∧ H' q = some (.tup [.int s.1, .int (s.2.size : Int)])) bs (ps.take i)) ?_ (fun i H' _ ⟨e', _⟩ => SqT.of (e' _ _ hp1)) ?_ ?_
      · exact ⟨same_new hD2, [], upd_same, .nil⟩
      · rintro i x Hc H' hi ⟨e', bs, hb', hbp⟩ ⟨rfl, hx⟩
        rw [List.getElem?_map] at hx
        obtain ⟨qa, hqa, rfl⟩ : ∃ qa, as[i]? = some qa ∧ V.ref qa = x := by
          cases e : as[i]? with
          | none => rw [e] at hx; cases hx
          | some qa => rw [e] at hx; exact ⟨qa, rfl, Option.some.inj hx⟩
        obtain ⟨s, hsi, hqt⟩ := paired_at hpd hqa
        have hq' := e' _ _ (e _ _ hqt)
        obtain ⟨a1, a2, a3⟩ := hall s (List.mem_of_getElem? hsi)
        have hy : s.2.size ≤ 100000 := by omega
        walk_at "rd"
        refine ⟨rfl, ?_⟩
        unfold tYes
        dsimp only
        rw [if_pos rfl]
        walk_at "rd"
        rename_i T hT
        have nTD : T ≠ D2 := (ne_of_none hb' hT).symm
        have hbl : (bs.map V.ref).length ≤ 50 := by
          rw [List.length_map, hbp.length, List.length_take]
          omega
        refine ⟨_, upd_old hT hb', Nat.lt_of_le_of_lt hbl (by decide), fun b o eo => ?_, bs ++ [T], by rw [upd_same, List.map_append]; rfl, ?_⟩
        · have h2 := e' _ _ eo
          rw [upd_ne (ne_of_none eo hD2), upd_ne (ne_of_none h2 hT)]
          exact h2
        · rw [take_snoc hsi]
          refine paired_snoc (Paired.mapP hbp fun y s ⟨n1, g1⟩ => ⟨n1, ?_⟩) ⟨nTD, ?_⟩
          · rw [upd_ne n1, upd_ne (ne_of_none g1 hT)]
            exact g1
          · rw [upd_ne nTD, upd_same]
      · rintro H2 ⟨e', bs, hb', hbp⟩
        rw [List.length_map, hal, List.take_length] at hbp
        refine r_nil ?_
        refine sp_aspans (sp := ps.map fun s => (s.1, (s.2.size : Int))) ⟨bs, hb', paired_mapR (Paired.mapP hbp fun y s ⟨_, g1⟩ => g1)⟩ hok hz (by rw [List.length_map]; exact hn) (fun H3 e3 => ?_)
        walk_at "rd"
        exact q _ ((e.trans e').trans e3)
def spCPieces : Sp := fun vs H Q _ => ∃ (z : Int) (p : Addr) (ps : List (Int × Array UInt8)), vs = [.int z, .ref p] ∧ PcsT H p ps ∧ pcsOk z ps ∧ 0 ≤ z ∧ z ≤ 4096 ∧ ps.length ≤ 50 ∧ ∀ H', Same H H' → Q .non H'
theorem sp_cpieces {z : Int} {p : Addr} {ps : List (Int × Array UInt8)} {H : Hp} {Q : VK} {E : XK} (hp : PcsT H p ps) (h1 : pcsOk z ps) (h0 : 0 ≤ z) (h2 : z ≤ 4096) (h3 : ps.length ≤ 50) (k : ∀ H', Same H H' → Q .non H') : spCPieces ([.int z, .ref p] ++ []) H Q E := ⟨z, p, ps, rfl, hp, h1, h0, h2, h3, k⟩
theorem ok_cpieces {f : Addr} {fd : FuncData} {k : Nat} (F : Fun K "check_pieces" "check_pieces" s_check_pieces f fd) (c_issize : CalT P w K mg base 3 "is_size" (spIn 0 4096)) (c_apieces : CalT P w K mg base 4 "are_pieces" spAPieces) :
    FnOk P w K mg base CX0 (k + 5) f fd ["size", "pieces"] spCPieces := by
  refine F.ok sc_check_pieces (fun vs H Q E h => ?_) (fun cdv A outer s H vs Q E hr h => ?_)
  · obtain ⟨z, p, ps, rfl, _⟩ := h
    rfl
  · obtain ⟨z, p, ps, rfl, hp, hok, h0, h1, hn, q⟩ := h
    have hu := hu_of hr
    have nd := sc_check_pieces.nd
    refine ⟨_, (pss_cons (ps_if (pt_not (pt_val (pe_cc c_issize hr (by omega) (by rfl) (pa_cons (pv 0) pa_nil))))
        (pss_one ps_never)
        pss_nil)
      (pss_one (ps_if (pt_not (pt_val (pe_cc c_apieces hr (by omega) (by rfl) (pa_cons (pv 0) (pa_cons (pv 1) pa_nil)))))
        (pss_one ps_never)
        pss_nil))), ?_⟩
    walk_at "rd"
    refine sp_in h0 h1 ?_
    walk_at "rd"
    refine sp_apieces hp hok h1 hn (fun H1 e1 => ?_)
    walk_at "rd"
    exact q _ e1
end
/-! ### the members' __init__ -/
/-- all that was there stays, but for x -/
def Frame (x : Addr) (H H' : Hp) : Prop := ∀ b o, b ≠ x → H b = some o → H' b = some o
def fileF (n : Str) (y : Array UInt8) (b t : Int) : List (Str × V) := putF "time" (.int t) (putF "mode" (.int b) (putF "data" (.byt y) (putF "name" (.str n) [])))
def dirF (n : Str) (b t : Int) : List (Str × V) := putF "time" (.int t) (putF "mode" (.int b) (putF "name" (.str n) []))
def symF (n g : Str) (b t : Int) : List (Str × V) := putF "time" (.int t) (putF "mode" (.int b) (putF "target" (.str g) (putF "name" (.str n) [])))
section
variable {P : Program} {w : World} {K : PySem.W.Frag} {mg : Str → Option Value} {base : Heap}
def spFileI (C : Addr) : Sp := fun vs H Q _ => ∃ (x dx : Addr) (n : Str) (y : Array UInt8) (b t : Int), vs = [.ref x, .str n, .byt y, .int b, .int t] ∧ H x = some (.ins C dx []) ∧ stampOk n b t ∧ y.size ≤ 4096 ∧ ∀ H', Frame x H H' → H' x = some (.ins C dx (fileF n y b t)) → Q .non H'
theorem ok_fileI {f C : Addr} {fd : FuncData} {k : Nat} (F : FunD K "__init__" "File.__init__" (defArgs s_File___init__) (defBody s_File___init__) (defScope s_File___init__) [] [("mode", .int 420), ("time", .int 0)] f fd) (hc : Cls K C)
    (a1 : NoAttr K C "name") (a2 : NoAttr K C "data") (a3 : NoAttr K C "mode") (a4 : NoAttr K C "time") (c_cname : CalT P w K mg base 3 "check_name" spCName) (c_cdata : CalT P w K mg base 3 "check_data" spCData) (c_stamp : CalT P w K mg base 4 "check_mode_and_time" spStamp) :
    FnOk P w K mg base CX0 (k + 5) f fd ["self", "name", "data", "mode", "time"] (spFileI C) := by
  refine funD_ok0 F sc_File___init__ (fun vs H Q E h => ?_) (fun cdv A outer s H vs Q E hr h => ?_)
  · obtain ⟨x, dx, n, y, b, t, rfl, _⟩ := h
    rfl
  · obtain ⟨x, dx, n, y, b, t, rfl, hx, ⟨s1, s2, s3, s4, s5⟩, hy, q⟩ := h
    have hu := hu_of hr
    have nd := sc_File___init__.nd
    refine ⟨_, (pss_cons (ps_expr (pe_cc c_cname hr (by omega) (by rfl) (pa_cons (pv 1) pa_nil)))
      (pss_cons (ps_expr (pe_cc c_cdata hr (by omega) (by rfl) (pa_cons (pv 2) pa_nil)))
      (pss_cons (ps_expr (pe_cc c_stamp hr (by omega) (by rfl) (pa_cons (pv 3) (pa_cons (pv 4) pa_nil))))
      (pss_cons (ps_fld (pv 0) (pv 1) rfl)
      (pss_cons (ps_fld (pv 0) (pv 2) rfl)
      (pss_cons (ps_fld (pv 0) (pv 3) rfl)
      (pss_one (ps_fld (pv 0) (pv 4) rfl)))))))), ?_⟩
    walk_at "rd"
    refine sp_cname s1 (fun H1 e1 => ?_)
    walk_at "rd"
    refine sp_cdata hy (fun H2 e2 => ?_)
    walk_at "rd"
    refine sp_stamp s2 s3 s4 s5 (fun H3 e3 => ?_)
    have hx3 := e3 _ _ (e2 _ _ (e1 _ _ hx))
    walk_at "rd"
    refine q _ (fun b o nb e => ?_) upd_same
    rw [upd_ne nb, upd_ne nb, upd_ne nb, upd_ne nb]
    exact e3 _ _ (e2 _ _ (e1 _ _ e))
def spDirI (C : Addr) : Sp := fun vs H Q _ => ∃ (x dx : Addr) (n : Str) (b t : Int), vs = [.ref x, .str n, .int b, .int t] ∧ H x = some (.ins C dx []) ∧ stampOk n b t ∧ ∀ H', Frame x H H' → H' x = some (.ins C dx (dirF n b t)) → Q .non H'
theorem ok_dirI {f C : Addr} {fd : FuncData} {k : Nat} (F : FunD K "__init__" "Directory.__init__" (defArgs s_Directory___init__) (defBody s_Directory___init__) (defScope s_Directory___init__) [] [("mode", .int 493), ("time", .int 0)] f fd) (hc : Cls K C)
    (a1 : NoAttr K C "name") (a3 : NoAttr K C "mode") (a4 : NoAttr K C "time") (c_cname : CalT P w K mg base 3 "check_name" spCName) (c_stamp : CalT P w K mg base 4 "check_mode_and_time" spStamp) :
    FnOk P w K mg base CX0 (k + 5) f fd ["self", "name", "mode", "time"] (spDirI C) := by
  refine funD_ok0 F sc_Directory___init__ (fun vs H Q E h => ?_) (fun cdv A outer s H vs Q E hr h => ?_)
  · obtain ⟨x, dx, n, b, t, rfl, _⟩ := h
    rfl
  · obtain ⟨x, dx, n, b, t, rfl, hx, ⟨s1, s2, s3, s4, s5⟩, q⟩ := h
    have hu := hu_of hr
    have nd := sc_Directory___init__.nd
    refine ⟨_, (pss_cons (ps_expr (pe_cc c_cname hr (by omega) (by rfl) (pa_cons (pv 1) pa_nil)))
      (pss_cons (ps_expr (pe_cc c_stamp hr (by omega) (by rfl) (pa_cons (pv 2) (pa_cons (pv 3) pa_nil))))
      (pss_cons (ps_fld (pv 0) (pv 1) rfl)
      (pss_cons (ps_fld (pv 0) (pv 2) rfl)
      (pss_one (ps_fld (pv 0) (pv 3) rfl)))))), ?_⟩
    walk_at "rd"
    refine sp_cname s1 (fun H1 e1 => ?_)
    walk_at "rd"
    refine sp_stamp s2 s3 s4 s5 (fun H3 e3 => ?_)
    have hx3 := e3 _ _ (e1 _ _ hx)
    walk_at "rd"
    refine q _ (fun b o nb e => ?_) upd_same
    rw [upd_ne nb, upd_ne nb, upd_ne nb]
    exact e3 _ _ (e1 _ _ e)
def spSymI (C : Addr) : Sp := fun vs H Q _ => ∃ (x dx : Addr) (n g : Str) (b t : Int), vs = [.ref x, .str n, .str g, .int b, .int t] ∧ H x = some (.ins C dx []) ∧ stampOk n b t ∧ nameB g = true ∧ ∀ H', Frame x H H' → H' x = some (.ins C dx (symF n g b t)) → Q .non H'
theorem ok_symI {f C : Addr} {fd : FuncData} {k : Nat} (F : FunD K "__init__" "Symlink.__init__" (defArgs s_Symlink___init__) (defBody s_Symlink___init__) (defScope s_Symlink___init__) [] [("mode", .int 511), ("time", .int 0)] f fd) (hc : Cls K C)
    (a1 : NoAttr K C "name") (a2 : NoAttr K C "target") (a3 : NoAttr K C "mode") (a4 : NoAttr K C "time") (c_cname : CalT P w K mg base 3 "check_name" spCName) (c_stamp : CalT P w K mg base 4 "check_mode_and_time" spStamp) :
    FnOk P w K mg base CX0 (k + 5) f fd ["self", "name", "target", "mode", "time"] (spSymI C) := by
  refine funD_ok0 F sc_Symlink___init__ (fun vs H Q E h => ?_) (fun cdv A outer s H vs Q E hr h => ?_)
  · obtain ⟨x, dx, n, g, b, t, rfl, _⟩ := h
    rfl
  · obtain ⟨x, dx, n, g, b, t, rfl, hx, ⟨s1, s2, s3, s4, s5⟩, hg, q⟩ := h
    have hu := hu_of hr
    have nd := sc_Symlink___init__.nd
    refine ⟨_, (pss_cons (ps_expr (pe_cc c_cname hr (by omega) (by rfl) (pa_cons (pv 1) pa_nil)))
      (pss_cons (ps_expr (pe_cc c_cname hr (by omega) (by rfl) (pa_cons (pv 2) pa_nil)))
      (pss_cons (ps_expr (pe_cc c_stamp hr (by omega) (by rfl) (pa_cons (pv 3) (pa_cons (pv 4) pa_nil))))
      (pss_cons (ps_fld (pv 0) (pv 1) rfl)
      (pss_cons (ps_fld (pv 0) (pv 2) rfl)
      (pss_cons (ps_fld (pv 0) (pv 3) rfl)
      (pss_one (ps_fld (pv 0) (pv 4) rfl)))))))), ?_⟩
    walk_at "rd"
    refine sp_cname s1 (fun H1 e1 => ?_)
    walk_at "rd"
    refine sp_cname hg (fun H2 e2 => ?_)
    walk_at "rd"
    refine sp_stamp s2 s3 s4 s5 (fun H3 e3 => ?_)
    have hx3 := e3 _ _ (e2 _ _ (e1 _ _ hx))
    walk_at "rd"
    refine q _ (fun b o nb e => ?_) upd_same
    rw [upd_ne nb, upd_ne nb, upd_ne nb, upd_ne nb]
    exact e3 _ _ (e2 _ _ (e1 _ _ e))
theorem ok_lnkI {f C : Addr} {fd : FuncData} {k : Nat} (F : FunD K "__init__" "Link.__init__" (defArgs s_Link___init__) (defBody s_Link___init__) (defScope s_Link___init__) [] [("mode", .int 420), ("time", .int 0)] f fd) (hc : Cls K C)
    (a1 : NoAttr K C "name") (a2 : NoAttr K C "target") (a3 : NoAttr K C "mode") (a4 : NoAttr K C "time") (c_cname : CalT P w K mg base 3 "check_name" spCName) (c_stamp : CalT P w K mg base 4 "check_mode_and_time" spStamp) :
    FnOk P w K mg base CX0 (k + 5) f fd ["self", "name", "target", "mode", "time"] (spSymI C) := by
  refine funD_ok0 F sc_Link___init__ (fun vs H Q E h => ?_) (fun cdv A outer s H vs Q E hr h => ?_)
  · obtain ⟨x, dx, n, g, b, t, rfl, _⟩ := h
    rfl
  · obtain ⟨x, dx, n, g, b, t, rfl, hx, ⟨s1, s2, s3, s4, s5⟩, hg, q⟩ := h
    have hu := hu_of hr
    have nd := sc_Link___init__.nd
    refine ⟨_, (pss_cons (ps_expr (pe_cc c_cname hr (by omega) (by rfl) (pa_cons (pv 1) pa_nil)))
      (pss_cons (ps_expr (pe_cc c_cname hr (by omega) (by rfl) (pa_cons (pv 2) pa_nil)))
      (pss_cons (ps_expr (pe_cc c_stamp hr (by omega) (by rfl) (pa_cons (pv 3) (pa_cons (pv 4) pa_nil))))
      (pss_cons (ps_fld (pv 0) (pv 1) rfl)
      (pss_cons (ps_fld (pv 0) (pv 2) rfl)
      (pss_cons (ps_fld (pv 0) (pv 3) rfl)
      (pss_one (ps_fld (pv 0) (pv 4) rfl)))))))), ?_⟩
    walk_at "rd"
    refine sp_cname s1 (fun H1 e1 => ?_)
    walk_at "rd"
    refine sp_cname hg (fun H2 e2 => ?_)
    walk_at "rd"
    refine sp_stamp s2 s3 s4 s5 (fun H3 e3 => ?_)
    have hx3 := e3 _ _ (e2 _ _ (e1 _ _ hx))
    walk_at "rd"
    refine q _ (fun b o nb e => ?_) upd_same
    rw [upd_ne nb, upd_ne nb, upd_ne nb, upd_ne nb]
    exact e3 _ _ (e2 _ _ (e1 _ _ e))
/-! ### Sparse: what is left over is a tuple -/
def spaF (n : Str) (z : Int) (p : Addr) (b t : Int) : List (Str × V) := putF "time" (.int t) (putF "mode" (.int b) (putF "pieces" (.ref p) (putF "size" (.int z) (putF "name" (.str n) []))))
def spSpaI (C : Addr) : Sp := fun vs H Q _ => ∃ (x dx : Addr) (n : Str) (z b t : Int) (p : Addr) (ps : List (Int × Array UInt8)), vs = [.ref x, .str n, .int z, .int b, .int t, .ref p] ∧ H x = some (.ins C dx []) ∧ stampOk n b t ∧ PcsT H p ps ∧ pcsOk z ps ∧ 0 ≤ z ∧ z ≤ 4096 ∧ ps.length ≤ 50 ∧
  ∀ H', Frame x H H' → H' x = some (.ins C dx (spaF n z p b t)) → Q .non H'
/-- the body of Sparse.__init__ -/
theorem walk_spaI {f C : Addr} {k : Nat} {cdv : Value} {A : Around} {outer : List Env} {s : Shared} {H : Hp} {vs : List V} {Q : VK} {E : XK} (hc : Cls K C)
    (a1 : NoAttr K C "name") (a2 : NoAttr K C "size") (a3 : NoAttr K C "mode") (a4 : NoAttr K C "time") (a5 : NoAttr K C "pieces") (c_cname : CalT P w K mg base 3 "check_name" spCName) (c_cpieces : CalT P w K mg base 5 "check_pieces" spCPieces) (c_stamp : CalT P w K mg base 4 "check_mode_and_time" spStamp)
    (hr : Room (k + 5) (A.deeper (envOfC "Sparse.__init__" (defScope s_Sparse___init__) s.heap.objs.size f cdv))) (h : spSpaI C vs H Q E) :
    ∃ t, PSs (cxOf CX0 P w K mg base N_Sparse___init__ "Sparse.__init__" (defScope s_Sparse___init__) f cdv A outer s H E).nox (defBody s_Sparse___init__) t ∧ t { nx := fun _ H' => Q .non H', rt := Q } (start N_Sparse___init__ vs) H := by
  obtain ⟨x, dx, n, z, b, t, p, ps, rfl, hx, ⟨s1, s2, s3, s4, s5⟩, hp, hok, z0, z1, hl, q⟩ := h
  have hu := hu_of hr
  have nd := sc_Sparse___init__.nd
  refine ⟨_, (pss_cons (ps_expr (pe_cc c_cname hr (by omega) (by rfl) (pa_cons (pv 1) pa_nil)))
      (pss_cons (ps_expr (pe_cc c_cpieces hr (by omega) (by rfl) (pa_cons (pv 2) (pa_cons (pv 5) pa_nil))))
      (pss_cons (ps_expr (pe_cc c_stamp hr (by omega) (by rfl) (pa_cons (pv 3) (pa_cons (pv 4) pa_nil))))
      (pss_cons (ps_fld (pv 0) (pv 1) rfl)
      (pss_cons (ps_fld (pv 0) (pv 2) rfl)
      (pss_cons (ps_fld (pv 0) (pv 5) rfl)
      (pss_cons (ps_fld (pv 0) (pv 3) rfl)
      (pss_one (ps_fld (pv 0) (pv 4) rfl))))))))), ?_⟩
  walk_at "rd"
  refine sp_cname s1 (fun H1 e1 => ?_)
  walk_at "rd"
  refine sp_cpieces (hp.same e1) hok z0 z1 hl (fun H2 e2 => ?_)
  walk_at "rd"
  refine sp_stamp s2 s3 s4 s5 (fun H3 e3 => ?_)
  have hx3 := e3 _ _ (e2 _ _ (e1 _ _ hx))
  walk_at "rd"
  refine q _ (fun b o nb e => ?_) upd_same
  rw [upd_ne nb, upd_ne nb, upd_ne nb, upd_ne nb, upd_ne nb]
  exact e3 _ _ (e2 _ _ (e1 _ _ e))
end
/-! ### a call that binds a rest and keyword-only parameters -/
/-- a look through the keyword-only defaults, one name behind another, that goes on as fin -/
def Chn {α : Type} (D : Addr) (fin : Sem α) : List (Str × Value) → Sem α → Prop
  | [], t => t = fin
  | q :: l, t => ∃ (β γ : Type) (x : Option Value → Sem β) (y : β → Sem γ) (z : γ → Sem α) (b : β), (t = ((nsGet D q.1 >>= x) >>= y) >>= z) ∧ (x (some q.2) = pure b) ∧ Chn D fin l (y b >>= z)
theorem chn_wp {α : Type} {K : PySem.W.Frag} {M : Model} {A : Around} {s : Shared} {D : Addr} {fin : Sem α} {Q : α → Shared → Prop} {E : Value → Shared → Prop} (X : K.In s.heap) (hf : wpAny M A fin Q E s) :
    ∀ {l : List (Str × Value)} {t : Sem α}, (∀ q ∈ l, PySem.W.nsIn K D q.1 = some (some q.2)) → Chn D fin l t → wpAny M A t Q E s
  | [], t, _, c => by
    have c' : t = fin := c
    rw [c']
    exact hf
  | q :: l, t, h, c => by
    obtain ⟨β, γ, x, y, z, b, rfl, hx, hc⟩ := c
    have look : PySem.W.Looks M s.heap (nsGet D q.1 >>= x) b := (PySem.W.looks_nsIn X (h q (List.mem_cons_self ..))).andThen (PySem.W.Looks.of_pure hx)
    have rest := chn_wp X hf (fun p hp => h p (List.mem_cons_of_mem _ hp)) hc
    rw [bind_assoc]
    exact wpAny_bind (look.here rest)
/-- a def's promise by the positional values and the keywords' values -/
def FnS (P : Program) (w : World) (K : PySem.W.Frag) (mg : Str → Option Value) (base : Heap) (k : Nat) (f : Addr) (ks : List Str) (sp : List V → List V → Hp → VK → Prop) : Prop :=
  ∀ (A : Around) (outer : List Env) (s : Shared) (H : Hp) (us ws : List Value) (vs zs : List V) (Q : VK) (E : XK), Room k A → Env0 P w K mg base A outer s H → Vals vs us → Vals zs ws → ws.length = ks.length → sp vs zs H Q →
    codeAny (model P w) A (.call (.ref f) ⟨us, ks.zip ws⟩) (CR CX0 outer P w H s Q E) s
/-- what a Sparse is made of: the name, the size, the pieces that follow -/
def spSpa (C : Addr) (b t : Int) (vs : List V) (H : Hp) (Q : VK) : Prop := ∃ (x dx : Addr) (n : Str) (z : Int) (as : List Addr) (ps : List (Int × Array UInt8)), vs = .ref x :: .str n :: .int z :: as.map V.ref ∧ H x = some (.ins C dx []) ∧ stampOk n b t ∧
  Paired (fun q (s : Int × Array UInt8) => H q = some (.tup [.int s.1, .byt s.2])) as ps ∧ pcsOk z ps ∧ 0 ≤ z ∧ z ≤ 4096 ∧ ps.length ≤ 50 ∧
  ∀ p H', H p = none → Frame x H H' → H' p = some (.tup (as.map V.ref)) → H' x = some (.ins C dx (spaF n z p b t)) → Q .non H'
section
variable {P : Program} {w : World} {K : PySem.W.Frag} {mg : Str → Option Value} {base : Heap}
/-- the tuple of the rest is laid, then the body runs -/
theorem run_spa {f C : Addr} {k : Nat} {oc : Value} {od an : Option Addr} {dV kV doc pm cdv ct : Value} {osl : Array (Option Value)} {A : Around} {outer : List Env} {s : Shared} {H : Hp} {args : Args} {Q : VK} {E : XK} {b t : Int} {vs : List V} {ux un uz ub ut : Value} {us : List Value}
    (lk : K.lookup f = some ⟨oc, od, .func (PySem.W.fnOf "__init__" "Sparse.__init__" (defArgs s_Sparse___init__) (defBody s_Sparse___init__) (defScope s_Sparse___init__) dV kV doc pm an cdv ct), osl⟩) (hcd : PySem.W.codeIn K cdv "Sparse.__init__" = true)
    (hc : Cls K C) (a1 : NoAttr K C "name") (a2 : NoAttr K C "size") (a3 : NoAttr K C "mode") (a4 : NoAttr K C "time") (a5 : NoAttr K C "pieces") (c_cname : CalT P w K mg base 3 "check_name" spCName) (c_cpieces : CalT P w K mg base 5 "check_pieces" spCPieces) (c_stamp : CalT P w K mg base 4 "check_mode_and_time" spStamp)
    (hr : Room (k + 6) A) (e0 : Env0 P w K mg base A outer s H) (rv : Vals vs (ux :: un :: uz :: us)) (rb : RelV (.int b) ub) (rt : RelV (.int t) ut) (h : spSpa C b t vs H Q)
    (bound : ∀ (M : Model) (A' : Around) (Ex : Value → Shared → Prop) (Q' : List (Str × Value) → Shared → Prop), wpAny M A' (newTuple us >>= fun tp => pure ([("self", ux), ("name", un), ("size", uz), ("mode", ub), ("time", ut), ("pieces", tp)] : List (Str × Value))) Q' Ex s →
      wpAny M A' (bindArgs (PySem.W.fnOf "__init__" "Sparse.__init__" (defArgs s_Sparse___init__) (defBody s_Sparse___init__) (defScope s_Sparse___init__) dV kV doc pm an cdv ct) args) Q' Ex s) :
    codeAny (model P w) A (.call (.ref f) args) (CR CX0 outer P w H s Q E) s := by
  obtain ⟨x, dx, n, z, as, ps, rfl, hx, st, hpd, hok, z0, z1, hl, q⟩ := h
  obtain ⟨r1, r2, r3, r4⟩ : RelV (.ref x) ux ∧ RelV (.str n) un ∧ RelV (.int z) uz ∧ Vals (as.map V.ref) us := by
    cases rv with
    | cons r1 rv => cases rv with
      | cons r2 rv => cases rv with
        | cons r3 rv => exact ⟨r1, r2, r3, rv⟩
  have hsz : (as.map V.ref).length ≤ sizeLine := by rw [List.length_map, hpd.length]; exact Nat.le_trans hl (by decide)
  have hus : us.length ≤ sizeLine := by rw [← r4.length]; exact hsz
  have fresh : H s.heap.objs.size = none := e0.hok.fresh (Nat.le_refl _)
  refine StX.run_bnd lk hcd sc_Sparse___init__ hr e0 (G := fun xs H2 => ∃ p, H p = none ∧ xs = [.ref x, .str n, .int z, .int b, .int t, .ref p] ∧ H2 = upd H p (.tup (as.map V.ref))) ?_ ?_
  · intro A' Ex Q' hq
    refine bound _ A' Ex Q' (wpAny_bind (wpAny_newTuple (wpAny_pure ?_) hus))
    have laid : ObjOk P w (upd H s.heap.objs.size (.tup (as.map V.ref))) (s.heap.push { cls := .type "tuple", data := .seq us.toArray }) s.heap.objs.size (.tup (as.map V.ref)) :=
      ⟨hsz, us, r4, _, Heap.get?_push_size _ rfl, rfl, _, rfl⟩
    exact hq _ (upd H s.heap.objs.size (.tup (as.map V.ref))) [.ref x, .str n, .int z, .int b, .int t, .ref s.heap.objs.size] [ux, un, uz, ub, ut, .ref s.heap.objs.size] (StX.env0_laid e0 laid) (StX.un_laid fresh) rfl (fun e s' z => z)
      (.cons r1 (.cons r2 (.cons r3 (.cons rb (.cons rt (.cons rfl .nil)))))) rfl ⟨_, fresh, rfl, rfl⟩
  · rintro s2 H2 xs ⟨p, hp, rfl, rfl⟩ hr'
    have np : x ≠ p := ne_of_none hx hp
    obtain ⟨t', d, wq⟩ := walk_spaI (k := k) (E := E) (Q := Q) (outer := outer) (s := s2) (A := A) (f := f) (cdv := cdv) hc a1 a2 a3 a4 a5 c_cname c_cpieces c_stamp hr' (vs := [.ref x, .str n, .int z, .int b, .int t, .ref p]) (H := upd H p (.tup (as.map V.ref)))
      ⟨x, dx, n, z, b, t, p, ps, rfl, upd_old hp hx, st, ⟨as, upd_same, Paired.mapP hpd fun q s g => upd_old hp g⟩, hok, z0, z1, hl, fun H' fr hx' => q p H' hp (fun c o nc e => fr c o nc (upd_old hp e)) (fr p _ np.symm upd_same) hx'⟩
    exact ⟨t', d.nox, wq⟩
theorem ok_spaD {f C : Addr} {fd : FuncData} {k : Nat} (F : FunD K "__init__" "Sparse.__init__" (defArgs s_Sparse___init__) (defBody s_Sparse___init__) (defScope s_Sparse___init__) [] [("mode", .int 420), ("time", .int 0)] f fd) (hc : Cls K C)
    (a1 : NoAttr K C "name") (a2 : NoAttr K C "size") (a3 : NoAttr K C "mode") (a4 : NoAttr K C "time") (a5 : NoAttr K C "pieces") (c_cname : CalT P w K mg base 3 "check_name" spCName) (c_cpieces : CalT P w K mg base 5 "check_pieces" spCPieces) (c_stamp : CalT P w K mg base 4 "check_mode_and_time" spStamp) :
    FnS P w K mg base (k + 6) f [] (fun vs zs H Q => zs = [] ∧ spSpa C 420 0 vs H Q) := by
  obtain ⟨oc, od, dV, kV, doc, pm, an, cdv, ct, osl, rfl, lk, hcd, hD, hK⟩ := F.ex
  have hdV : dV = .none := by
    rcases hD with ⟨_, e⟩ | ⟨e, _⟩
    · exact e
    · exact absurd rfl e
  subst hdV
  rcases hK with e | ⟨D, rfl, hq⟩
  · exact absurd e (by simp)
  obtain ⟨ub, nb, rb⟩ := hq ("mode", .int 420) (by simp)
  obtain ⟨ut, nt, rt⟩ := hq ("time", .int 0) (by simp)
  intro A outer s H us ws vs zs Q E hr e0 rv rz hw ⟨ez, h⟩
  subst ez
  obtain rfl : ws = [] := by
    cases rz
    rfl
  have h' := h
  obtain ⟨x, dx, n, z, as, ps, ev, _⟩ := h'
  obtain ⟨ux, un, uz, ur, rfl⟩ : ∃ ux un uz ur, us = ux :: un :: uz :: ur := by
    subst ev
    cases rv with
    | cons r1 rv => cases rv with
      | cons r2 rv => cases rv with
        | cons r3 rv => exact ⟨_, _, _, _, rfl⟩
  have KX : K.In s.heap := e0.mod.kin.keeps fun b o e => (e0.bs b o e).1
  have hks : ∀ q ∈ [(("mode" : Str), ub), (("time" : Str), ut)], PySem.W.nsIn K D q.1 = some (some q.2) := by
    intro q hq
    simp only [List.mem_cons, List.not_mem_nil, or_false] at hq
    rcases hq with rfl | rfl
    · exact nb
    · exact nt
  refine run_spa lk hcd hc a1 a2 a3 a4 a5 c_cname c_cpieces c_stamp hr e0 rv rb rt h (fun M A' Ex Q' hq => ?_)
  refine chn_wp KX hq hks ?_
  cases ur with
  | nil => exact ⟨_, _, _, _, _, _, rfl, rfl, _, _, _, _, _, _, rfl, rfl, rfl⟩
  | cons r rs => exact ⟨_, _, _, _, _, _, rfl, rfl, _, _, _, _, _, _, rfl, rfl, rfl⟩
end
/-! ### C(e, .., k = v, ..), by such a promise of its __init__ -/
structure MakS (P : Program) (w : World) (K : PySem.W.Frag) (mg : Str → Option Value) (base : Heap) (k : Nat) (x : Str) (C : Addr) (ks : List Str) (sp : List V → List V → Hp → VK → Prop) : Prop where
  ex : ∃ f : Addr, Mk K C f ∧ FnS P w K mg base k f ks sp ∧ mg x = some (.ref C)
def tMakS (sp : List V → List V → Hp → VK → Prop) (m : Nat) (C : Addr) (t tk : TA) : TE := fun σ H Q => t σ H fun vs H1 => tk σ H1 fun zs H2 => zs.length = m ∧ ∀ x dx, H2 x = none → H2 dx = none → dx ≠ x →
  sp (.ref x :: vs) zs (upd (upd H2 dx (.own x)) x (.ins C dx [])) (fun v H3 => v = .non ∧ Q (.ref x) H3)
section
variable {X : Cx} {j k : Nat} {x : Str} {C : Addr} {ks : List Str} {sp : List V → List V → Hp → VK → Prop} {e : Expr} {es : List Expr} {kws : List Keyword} {p pos : Pos} {t tk : TA}
theorem run_mks {pins : List (Addr × Obj)} {σ : L2.St} {H : Hp} {s : Shared} {Q : VK} {f : Addr} {us ws : List Value} {vs zs : List V} (M : Mk X.K C f) (F : FnS X.prog X.w X.K X.mg X.base k f ks sp) (hr : Room (k + 1) X.A) (hx : ∀ (E : Value → Shared → Prop), True)
    (I : L2.Inv X pins σ H s) (rv : Vals vs us) (rz : Vals zs ws) (hl : zs.length = ks.length)
    (h : ∀ y dx, H y = none → H dx = none → dx ≠ y → sp (.ref y :: vs) zs (upd (upd H dx (.own y)) y (.ins C dx [])) (fun v H3 => v = .non ∧ Q (.ref y) H3)) :
    wpAny (model X.prog X.w) X.A (call (.ref C) us (ks.zip ws)) (EP X pins σ Q) X.xe s := by
  let y := s.heap.objs.size + 1
  have told := h y s.heap.objs.size (I.hok.fresh (Nat.le_succ _)) (I.hok.fresh (Nat.le_refl _)) (Nat.ne_of_lt (Nat.lt_succ_self _))
  have J := Inv.made (C := C) I
  have rv' : Vals (V.ref y :: vs) (Value.ref y :: us) := .cons rfl rv
  have ran := F _ X.stack _ _ (Value.ref y :: us) ws _ zs _ (fun _ _ _ => False) (hr.make C us (ks.zip ws)) (J.env0.make C us (ks.zip ws)) rv' rz (rz.length.symm.trans hl) told
  refine wpAny_call (make_map (f := f) I.kIn M.makes M.init (beq_iff_eq.mp M.fn) (codeAny_mono ran ?_))
  intro r s' hq
  cases r with
  | error e => exact False.elim hq
  | ok fl =>
    cases fl with
    | ret u =>
      obtain ⟨v, H', J', rel, ev, q⟩ := J.after hq
      rw [ev] at rel
      exact ⟨rel, V.ref y, H', J', rfl, q⟩
    | next => exact False.elim hq
    | brk => exact False.elim hq
    | cont => exact False.elim hq
theorem pe_mks (c : MakS X.prog X.w X.K X.mg X.base k x C ks sp) (hr : Room j X.A) (hk : k + 1 ≤ j) (hg : Gl X x) (ha : PA X (e :: es) t) (hkw : PK X kws tk)
    (hall : (backToKw pos (keywordEach kws X.env)).all (·.1.isSome) = true := by rfl) (hks : (backToKw pos (keywordEach kws X.env)).filterMap (·.1) = ks := by rfl) (hdb : (x == ("__debug__" : Str)) = false := by decide)
    (he : starEach (e :: es) X.env = (false, eval e X.env) :: starEach es X.env := by rfl) (hpl : ((backTo pos (starEach (e :: es) X.env)).any (·.1) || (backToKw pos (keywordEach kws X.env)).any (·.1.isNone)) = false := by rfl) :
    PE X (.Call (.Name x p) (e :: es) kws pos) (tMakS sp ks.length C t tk) := by
  obtain ⟨f, M, F, hm⟩ := c.ex
  constructor
  intro pins s σ H Q I h
  refine wpAny_Call_Name_kw (ld_glob I hg hm ?_ hdb)
  refine PySem.W.callWith_KW (h₀ := X.base) I.ok.mod.kin M.kp hall (thn (ha.run pos pins s σ H _ I h) ?_) hpl he
  rintro us s1 ⟨vs, H1, I1, r1, q1⟩
  refine thn (hkw.run pos pins s1 σ H1 _ I1 q1) ?_
  rintro ws s2 ⟨zs, H2, I2, rz, hl, q2⟩
  refine ⟨I2.kIn, ?_⟩
  rw [hks]
  exact run_mks M F (hr.mono hk) (fun _ => True.intro) I2 r1 rz hl q2
end
theorem r_maks {sp : List V → List V → Hp → VK → Prop} {m : Nat} {C : Addr} {t tk : TA} {σ : L2.St} {H : Hp} {Q : VK} (h : t σ H fun vs H1 => tk σ H1 fun zs H2 => zs.length = m ∧ ∀ x dx, H2 x = none → H2 dx = none → dx ≠ x →
  sp (.ref x :: vs) zs (upd (upd H2 dx (.own x)) x (.ins C dx [])) (fun v H3 => v = .non ∧ Q (.ref x) H3)) : tMakS sp m C t tk σ H Q := h
theorem fnS_of {P : Program} {w : World} {K : PySem.W.Frag} {mg : Str → Option Value} {base : Heap} {k n : Nat} {f : Addr} {fd : FuncData} {ps ks : List Str} {sp : Sp} (F : FnOk P w K mg base CX0 k f fd ps sp) (hb : KBn K fd ps n ks (fun us ws => us ++ ws) (fun us ws => us ++ ws)) :
    FnS P w K mg base k f ks (fun vs zs H Q => vs.length = n ∧ ∀ E, sp (vs ++ zs) H Q E) := by
  intro A outer s H us ws vs zs Q E hr e0 rv rz hw ⟨hn, h⟩
  have KX : K.In s.heap := e0.mod.kin.keeps fun b o e => (e0.bs b o e).1
  exact F.run A outer s H _ (us ++ ws) (vs ++ zs) Q E hr e0 (hb.to s us ws KX (by rw [← rv.length]; exact hn) hw) (hb.rel rv rz) (h E)
theorem fnS_dfl {P : Program} {w : World} {K : PySem.W.Frag} {mg : Str → Option Value} {base : Heap} {k : Nat} {f : Addr} {fd : FuncData} {ps : List Str} {sp : Sp} {dvs : List V} {ds : List Value} (F : FnOk P w K mg base CX0 k f fd ps sp) (hb : Binds K fd ps ds) (hd : Vals dvs ds) :
    FnS P w K mg base k f [] (fun vs zs H Q => zs = [] ∧ ∀ E, sp (vs ++ dvs) H Q E) := by
  intro A outer s H us ws vs zs Q E hr e0 rv rz hw ⟨hz, h⟩
  have KX : K.In s.heap := e0.mod.kin.keeps fun b o e => (e0.bs b o e).1
  subst hz
  cases rz
  have r2 := rv.append hd
  exact F.run A outer s H _ (us ++ ds) (vs ++ dvs) Q E hr e0 (hb s us KX (by rw [← r2.length]; exact F.len _ _ _ _ (h E))) r2 (h E)
end Th
namespace Th
open PySem PySem.Spec PyProof.Rows L2
local macro_rules | `(tactic| walk_at "lk") => `(tactic| first
  | assumption
  | exact upd_same
  | (refine upd_old (by assumption) ?_; walk_at "lk")
  | (refine upd_diff (by assumption) ?_; walk_at "lk")
  | (refine upd_diff (Ne.symm (by assumption)) ?_; walk_at "lk"))
local macro_rules | `(tactic| walk_at "cnd") => `(tactic| first
  | omega
  | (refine ⟨by omega, by omega⟩)
  | (refine ⟨by omega, by omega, by omega⟩)
  | (refine .inl ⟨by omega, by omega⟩)
  | (refine .inr ⟨by omega, by omega⟩)
  | (exact (show CPow _ _ from ⟨by decide, by decide, by omega⟩))
  | decide +kernel
  | (unfold CMulW; decide +kernel)
  | (exact wide_div (b := 64) (by omega) (by omega) (by decide) (by decide)))
local macro_rules | `(tactic| walk_at "rd1") => `(tactic| first
  | (with_reducible refine r_seq ?_)
  | (with_reducible refine r_asg ?_)
  | (with_reducible refine r_ret ?_)
  | (with_reducible refine r_if ?_)
  | (with_reducible refine r_gname ?_)
  | ((with_reducible refine' r_var ?hv ?_); (case hv => exact rfl))
  | (with_reducible refine r_c ?_)
  | (with_reducible refine r_op ?_)
  | (with_reducible refine r_I0 ?_)
  | ((with_reducible refine r_I ?hc ?_); (case hc => walk_at "cnd"))
  | (with_reducible refine r_test ?_)
  | (with_reducible refine r_tB ?_)
  | (with_reducible refine r_bl ?_)
  | (with_reducible refine r_not ?_)
  | (with_reducible refine r_and ?_)
  | (with_reducible refine r_or ?_)
  | (with_reducible refine r_ifE ?_)
  | (with_reducible refine r_notV ?_)
  | (with_reducible refine r_andV ?_)
  | (with_reducible refine r_orV ?_)
  | (with_reducible refine r_chain ?_)
  | (with_reducible refine r_cb ?_)
  | (with_reducible refine r_call ?_)
  | (with_reducible refine r_callN ?_)
  | (with_reducible refine r_nil ?_)
  | (with_reducible refine r_dget ?_)
  | ((with_reducible refine r_dnewK ?_); (intro p hp))
  | (with_reducible refine r_din ?_)
  | (with_reducible refine r_dnotin ?_)
  | (with_reducible refine r_dput ?_)
  | (with_reducible refine r_ddel ?_)
  | (with_reducible refine r_dsetd ?_)
  | (with_reducible refine r_rng2 ?_)
  | (with_reducible refine r_cons ?_)
  | ((with_reducible refine r_lst ?_))
  | ((with_reducible refine r_tup ?_))
  | ((with_reducible refine r_new ?_ ?_); (exact Nat.le_of_ble_eq_true rfl); (intro p hp))
  | (with_reducible refine r_rInt1 ?_)
  | (with_reducible refine r_rIntB ?_)
  | (with_reducible refine r_rAbs ?_)
  | (with_reducible refine r_rMin2 ?_)
  | (with_reducible refine r_rMax2 ?_)
  | ((with_reducible refine r_rLenZ ?hz ?_); (case hz => first | assumption | exact Nat.le_of_ble_eq_true rfl | (refine Nat.le_trans ?_ (by decide : 100000 ≤ sizeLine); omega)))
  | ((with_reducible refine r_addZ ?hz ?_); (case hz => (refine Nat.le_trans ?_ (by decide : 100000 ≤ sizeLine); first | omega | (simp only [Str.length] at *; simp; omega))))
  | ((with_reducible refine r_mulZ ?hz ?h0 ?h1 ?_); (case hz => first | omega | exact Nat.le_of_ble_eq_true rfl); (case h0 => omega); (case h1 => omega))
  | ((with_reducible refine' r_rLenQ ?h1 ?_); (case h1 => first | (exact .inl (by assumption)) | (exact .inr (by assumption)) | (exact .inl (SqL.of (by walk_at "lk"))) | (exact .inr (SqT.of (by walk_at "lk")))))
  | ((with_reducible refine r_eq ?hs ?_); (case hs => exact rfl))
  | ((with_reducible refine r_ne ?hs ?_); (case hs => exact rfl))
  | (with_reducible refine r_inC ?_)
  | ((with_reducible refine' r_cat ?h1 ?h2 ?h3 ?_); (case h1 => walk_at "lk"); (case h2 => walk_at "lk"); (case h3 => exact Nat.le_of_ble_eq_true rfl); (intro p hp))
  | ((with_reducible refine' r_rep ?h1 ?h2 ?h3 ?h4 ?_); (case h1 => walk_at "lk"); (case h2 => omega); (case h3 => omega); (case h4 => exact Nat.le_of_ble_eq_true rfl); (intro p hp))
  | ((with_reducible refine' r_append ?h1 ?h2 ?_); (case h1 => walk_at "lk"); (case h2 => first | exact (show _ + 1 ≤ sizeLine from Nat.le_of_ble_eq_true rfl) | exact Nat.lt_of_le_of_lt (by omega : _ ≤ 100000) (by decide)))
  | (with_reducible refine r_bm ?_)
  | ((with_reducible refine' r_tyL ?h1 ?_); (case h1 => walk_at "lk"))
  | ((with_reducible refine' r_ixL ?h1 ?h2 ?_); (case h1 => first | assumption | exact SqL.of (by walk_at "lk")); (case h2 => exact rfl))
  | ((with_reducible refine' r_ixT ?h1 ?h2 ?_); (case h1 => first | assumption | exact SqT.of (by walk_at "lk")); (case h2 => exact rfl))
  | (with_reducible refine r_gsub ?_)
  | ((with_reducible refine' r_setL ?h1 ?h2 ?_); (case h1 => walk_at "lk"); (case h2 => exact rfl))
  | (with_reducible refine r_un ?_)
  | (with_reducible refine r_neg ?_)
  | (with_reducible refine r_iteT ?_)
  | (with_reducible refine r_iteNT ?_)
  | (with_reducible refine r_iteNF ?_)
  | (with_reducible refine r_iteF ?_)
  | (with_reducible refine r_next ?_)
  | (with_reducible refine r_drop ?_)
  | (with_reducible refine r_cont ?_)
  | (with_reducible refine r_brk ?_))
local macro_rules | `(tactic| walk_at "ty") => `(tactic| first
  | assumption
  | exact .base (.int _)
  | exact .base (.str _)
  | exact .base (.bl _)
  | exact .base .non
  | exact .byt _
  | exact .base (.lst (by walk_at "lk"))
  | exact .base (.tup (by walk_at "lk")))
local macro_rules | `(tactic| walk_at "rd2") => `(tactic| first
  | walk_at "rd1"
  | ((with_reducible refine' r_isi true ?ht ?hk ?_); (case ht => walk_at "ty"); (case hk => first | assumption | decide +kernel))
  | ((with_reducible refine' r_isi false ?ht ?hk ?_); (case ht => walk_at "ty"); (case hk => first | assumption | decide +kernel))
  | ((with_reducible refine' r_isiT2 true true ?hT ?ht ?hk ?hk2 ?_); (case hT => walk_at "lk"); (case ht => walk_at "ty"); (case hk => decide +kernel); (case hk2 => decide +kernel))
  | ((with_reducible refine' r_isiT2 true false ?hT ?ht ?hk ?hk2 ?_); (case hT => walk_at "lk"); (case ht => walk_at "ty"); (case hk => decide +kernel); (case hk2 => decide +kernel))
  | ((with_reducible refine' r_isiT2 false true ?hT ?ht ?hk ?hk2 ?_); (case hT => walk_at "lk"); (case ht => walk_at "ty"); (case hk => decide +kernel); (case hk2 => decide +kernel))
  | ((with_reducible refine' r_isiT2 false false ?hT ?ht ?hk ?hk2 ?_); (case hT => walk_at "lk"); (case ht => walk_at "ty"); (case hk => decide +kernel); (case hk2 => decide +kernel))
  | (with_reducible refine r_iteNT ?_)
  | ((show (if (!true) = true then _ else _)); refine r_iteNT ?_)
  | (with_reducible refine r_r1 ?_)
  | (with_reducible refine r_maks ?_)
  | (with_reducible refine r_sfld ?_)
  | ((with_reducible refine' r_sfldE ?h1 ?h2 ?h3 ?h4 ?_); (case h1 => walk_at "lk"); (case h2 => assumption); (case h3 => assumption); (case h4 => exact (show _ + 1 ≤ 1000 from Nat.le_of_ble_eq_true rfl)))
  | (with_reducible refine r_fld ?_)
  | (with_reducible refine r_join ?_)
  | (with_reducible refine r_jcons ?_)
  | (with_reducible refine r_jnil ?_)
  | ((with_reducible refine r_rLenY ?hz ?_); (case hz => first | assumption | (refine Nat.le_trans ?_ (by decide : 100000 ≤ sizeLine); omega)))
  | (with_reducible refine r_par ?_)
  | (with_reducible refine r_pair ?_)
  | (with_reducible refine r_par3 ?_)
  | (with_reducible refine r_trip ?_)
  | ((with_reducible refine' r_gtup ?h1 ?h2 ?_); (case h1 => first | assumption | exact SqT.of (by walk_at "lk")); (case h2 => exact rfl))
  | (with_reducible refine r_gcons ?_)
  | (with_reducible refine r_gnil ?_)
  | ((with_reducible refine' r_slL ?h1 ?_); (case h1 => first | assumption | exact SqL.of (by walk_at "lk")); (intro p hp))
  | (with_reducible refine r_iTup ?_)
  | ((with_reducible refine' r_tupE ?h1 ?_); (case h1 => first | assumption | exact SqT.of (by walk_at "lk")))
  | (with_reducible refine r_m1 ?_)
  | (with_reducible refine r_isZ ?_)
  | (with_reducible refine r_sl ?_)
  | (with_reducible refine r_noPart ?_)
  | (with_reducible refine r_part ?_)
  | (with_reducible refine r_partE ?_)
  | ((with_reducible refine r_slS ?hz ?_); (case hz => first | assumption | (refine Nat.le_trans ?_ (by decide : 100000 ≤ sizeLine); omega)))
  | ((with_reducible refine' r_inT ?h1 ?h2 ?h3 ?_); (case h1 => first | assumption | (exact SqT.of (by walk_at "lk"))); (case h2 => exact rfl); (case h3 => exact rfl))
  | ((with_reducible refine' r_inL ?h1 ?h2 ?h3 ?_); (case h1 => first | assumption | (exact SqL.of (by walk_at "lk"))); (case h2 => exact rfl); (case h3 => exact rfl))
  | (with_reducible refine r_lc ?_)
  | (with_reducible refine r_for ?_)
  | (with_reducible refine r_iStr ?_)
  | (with_reducible refine r_strE ?_)
  | (with_reducible refine r_iList ?_)
  | ((with_reducible refine' r_listE ?h1 ?_); (case h1 => first | assumption | exact SqL.of (by walk_at "lk")))
  | (with_reducible refine r_iRng1 ?_)
  | ((with_reducible refine' r_rngE ?h0 ?h1 ?_); (case h0 => first | omega | (split <;> omega)); (case h1 => first | omega | (split <;> omega))))
local macro_rules | `(tactic| walk_at "rd") => `(tactic| (repeat walk_at "rd2"))
local macro_rules | `(tactic| walk_at "st") => `(tactic| (repeat (first
  | (with_reducible refine r_gname ?_)
  | (with_reducible refine r_next ?_)
  | (with_reducible refine r_seq ?_)
  | (with_reducible refine r_asg ?_)
  | (with_reducible refine r_ret ?_)
  | (with_reducible refine r_for ?_)
  | (with_reducible refine r_iRng1 ?_)
  | (with_reducible refine r_iList ?_)
  | (with_reducible refine r_cons ?_)
  | (with_reducible refine r_par ?_)
  | (with_reducible refine r_par3 ?_))))
/-! ### members made -/
structure Cs where
  F : Addr
  S : Addr
  D : Addr
  Y : Addr
  L : Addr
/-- the object x is the member m -/
def Mem.Ins (c : Cs) (H : Hp) (x : Addr) : Mem → Prop
  | .file n b t ns => ∃ dx, H x = some (.ins c.F dx (fileF n (byteArr ns) b t))
  | .sparse n b t z sp => ∃ dx p, H x = some (.ins c.S dx (spaF n z p b t)) ∧ PcsT H p (sp.map fun s => (s.1, byteArr s.2))
  | .dir n b t => ∃ dx, H x = some (.ins c.D dx (dirF n b t))
  | .sym n b t g => ∃ dx, H x = some (.ins c.Y dx (symF n g b t))
  | .lnk n b t g => ∃ dx, H x = some (.ins c.L dx (symF n g b t))
theorem Mem.Ins.same {c : Cs} {H H' : Hp} {x : Addr} {m : Mem} (e : Same H H') (h : m.Ins c H x) : m.Ins c H' x := by
  cases m with
  | file n b t ns => obtain ⟨dx, h1⟩ := h; exact ⟨dx, e _ _ h1⟩
  | sparse n b t z sp => obtain ⟨dx, p, h1, h2⟩ := h; exact ⟨dx, p, e _ _ h1, h2.same e⟩
  | dir n b t => obtain ⟨dx, h1⟩ := h; exact ⟨dx, e _ _ h1⟩
  | sym n b t g => obtain ⟨dx, h1⟩ := h; exact ⟨dx, e _ _ h1⟩
  | lnk n b t g => obtain ⟨dx, h1⟩ := h; exact ⟨dx, e _ _ h1⟩
/-- a new instance and what its __init__ leaves alone -/
theorem frame_same {H H' : Hp} {x dx : Addr} {u v : HO} (hx : H x = none) (hd : H dx = none) (fr : Frame x (upd (upd H dx u) x v) H') : Same H H' := fun b o e => by
  have nx := ne_of_none e hx
  exact fr b o nx (by rw [upd_ne nx, upd_ne (ne_of_none e hd)]; exact e)
abbrev s_paths_above : Stmt := topS 45
abbrev N_paths_above : List Str := ["path", "parts", "many"]
theorem sc_paths_above : FnScope N_paths_above ["path"] (defScope s_paths_above) := ⟨rfl, rfl, rfl, by decide +kernel, rfl, by decide +kernel, by decide +kernel⟩
abbrev s_directory_of : Stmt := topS 46
abbrev N_directory_of : List Str := ["path"]
theorem sc_directory_of : FnScope N_directory_of ["path"] (defScope s_directory_of) := ⟨rfl, rfl, rfl, by decide +kernel, rfl, by decide +kernel, by decide +kernel⟩
abbrev s_is_path : Stmt := topS 25
abbrev N_is_path : List Str := ["thing", "part"]
theorem sc_is_path : FnScope N_is_path ["thing"] (defScope s_is_path) := ⟨rfl, rfl, rfl, by decide +kernel, rfl, by decide +kernel, by decide +kernel⟩
/-! ### paths -/
theorem sum_joinL (s : List Nat) : ∀ ps : List (List Nat), (ps.map List.length).sum ≤ (TL.joinL s ps).length
  | [] => Nat.le_refl _
  | [p] => by
    show p.length + 0 ≤ p.length
    omega
  | p :: q :: r => by
    have h := sum_joinL s (q :: r)
    show p.length + ((q :: r).map List.length).sum ≤ (p ++ (s ++ TL.joinL s (q :: r))).length
    rw [List.length_append, List.length_append]
    omega
theorem sum_split (z y : Str) : ((Txt.split z y).map (·.length)).sum ≤ z.length := by
  have e := StrLaws.join_split z y
  have h := sum_joinL (TL.tl y) ((Txt.split z y).map TL.tl)
  rw [← TL.tl_join, e, List.map_map] at h
  have e2 : (Txt.split z y).map (fun x => x.length) = (Txt.split z y).map (List.length ∘ TL.tl) := List.map_congr_left fun x _ => rfl
  rw [e2]
  exact h
theorem sum_take (l : List Str) (i : Nat) : ((l.take i).map (·.length)).sum ≤ (l.map (·.length)).sum := by
  have e : l.map (·.length) = (l.take i).map (·.length) ++ (l.drop i).map (·.length) := by rw [← List.map_append, List.take_append_drop]
  rw [e, List.sum_append]
  omega
def noPart (p : Str) : Bool := "" == p || ("." == p || ".." == p)
def pathB (z : Str) : Bool := nameB z && !(Txt.split z "/").any noPart
/-- the paths above a path -/
def aboveP (z : Str) : List Str := (List.range ((Txt.split z "/").length - 1)).map fun i => Txt.join "/" ((Txt.split z "/").take (i + 1))
/-- the path of the directory -/
def dirP (z : Str) : Str := (Txt.rpartition z "/").1
theorem cutV_take (xs : List V) (n : Nat) (h : n ≤ xs.length) : cutV xs none (some (n : Int)) = xs.take n := by
  unfold cutV
  rw [HT.sIx_none, HT.sIx_nat, Nat.sub_zero, List.drop_zero, Nat.min_eq_left h]
section
variable {P : Program} {w : World} {K : PySem.W.Frag} {mg : Str → Option Value} {base : Heap}
def spAbove : Sp := fun vs H Q _ => ∃ z : Str, vs = [.str z] ∧ z.length ≤ 1000 ∧ ∀ p H', H p = none → Same H H' → H' p = some (.lst ((aboveP z).map V.str)) → Q (.ref p) H'
theorem ok_above {f : Addr} {fd : FuncData} {k : Nat} (F : Fun K "paths_above" "paths_above" s_paths_above f fd) (m1 : mg "range" = none) (m2 : mg "len" = none) : FnOk P w K mg base CX0 (k + 2) f fd ["path"] spAbove := by
  refine F.ok sc_paths_above (fun vs H Q E h => ?_) (fun cdv A outer s H vs Q E hr h => ?_)
  · obtain ⟨z, rfl, _⟩ := h
    rfl
  · obtain ⟨z, rfl, hz, q⟩ := h
    have hu := hu_of hr
    have nd := sc_paths_above.nd
    refine ⟨_, (pss_cons (ps_set (i := 1) nd rfl (Or.inr rfl) (pe_splitN (pe_split (pv 0) pe_str)))
      (pss_one (ps_ret (pe_lc (own := [("many", 2)]) (g := (gName 2)) (tt := tYes) rfl nd (pi_range2 (by rfl) (by assumption) (pa_cons pe_int (pa_cons (pe_callB (call_lenK K) (by rfl) (by assumption) (by decide +kernel) (pa_cons (pv 1) pa_nil)) pa_nil))) (blkOk_by (N := N_paths_above) (sc := defScope s_paths_above) (by decide +kernel)) (fun _ _ _ _ _ => (pg_name (i := 2) nd rfl (Or.inl rfl))) (fun _ _ _ _ _ => pts_nil) (fun _ _ _ _ _ => (pe_bmK K PySem.F.plainAttrs_str PySem.F.slot_str_join PySem.F.type_str_join (mt_joinK K) pe_str (pa_cons (pe_slice (sl_listK K) (pv 1) po_none (po_some (pv 2))) pa_nil))))))), ?_⟩
    walk_at "rd"
    have hz' : z.length + 2 ≤ sizeLine := Nat.le_trans (Nat.add_le_add_right hz 2) (by decide)
    have hn : (Txt.split z "/").length ≤ 1002 := Nat.le_trans (PyProof.Rows.split_le z "/") (by omega)
    refine r_split (by decide) hz' fun L hL => ?_
    walk_at "rd"
    have gL : upd H L (.lst ((Txt.split z "/").map V.str)) L = some (.lst ((Txt.split z "/").map V.str)) := upd_same
    have hn1 := PyProof.Rows.split_pos z "/"
    have hml : ((Txt.split z "/").map V.str).length = (Txt.split z "/").length := List.length_map ..
    refine ⟨_, _, rfl, ⟨by decide, by decide, by omega, by omega⟩, ?_⟩
    intro D hD
    refine lc_it (walk_range (lo := 1) (n := _)) (fun i H' => Same (upd H L (.lst ((Txt.split z "/").map V.str))) H' ∧ H' D = some (.lst (((List.range i).map fun i => Txt.join "/" ((Txt.split z "/").take (i + 1))).map V.str))) ⟨same_new hD, by rw [upd_same]; rfl⟩ (fun _ _ _ _ => True.intro) ?_ ?_
    · rintro i x Hc H' hi ⟨e, hb'⟩ ⟨rfl, hx⟩
      have hi' : i < (Txt.split z "/").length - 1 := by
        rw [hml] at hi
        omega
      have hx' : x = .int (((i + 1 : Nat) : Int)) := by rw [hx]; show V.int (1 + (i : Int)) = V.int (((i + 1 : Nat) : Int)); congr 1; omega
      subst hx'
      clear hx
      walk_at "rd"
      refine ⟨rfl, ?_⟩
      unfold tYes
      dsimp only
      rw [if_pos rfl]
      walk_at "rd"
      refine ⟨rfl, ?_⟩
      walk_at "rd"
      refine r_slL (SqL.of (e _ _ gL)) fun q1 hq1 => ?_
      rw [cutV_take _ _ (by rw [hml]; omega), ← List.map_take]
      refine ⟨_, _, _, rfl, rfl, .inl (SqL.of upd_same), ?_, ?_⟩
      · have h1 := Nat.le_trans (sum_take (Txt.split z "/") (i + 1)) (sum_split z "/")
        have h2 : ((Txt.split z "/").take (i + 1)).length ≤ 1002 := by rw [List.length_take]; omega
        have h3 : ((Txt.split z "/").take (i + 1)).length * ("/" : Str).length ≤ 1002 := by
          rw [show ("/" : Str).length = 1 from rfl, Nat.mul_one]
          exact h2
        omega
      refine ⟨_, (same_new hq1) _ _ hb', Nat.lt_of_le_of_lt (by rw [List.length_map, List.length_map, List.length_range]; omega : _ ≤ 1002) (by decide), fun b o eo => by rw [upd_ne (ne_of_none eo hD)]; exact (same_new hq1) _ _ (e _ _ eo), ?_⟩
      rw [upd_same, List.range_succ, List.map_append, List.map_append]
      rfl
    · rintro H3 ⟨e, hb'⟩
      walk_at "rd"
      refine q D H3 ((same_new hL).free hD) ((same_new hL).trans e) ?_
      rw [hb', hml]
      unfold aboveP
      congr 5
      omega
def spDirOf : Sp := fun vs H Q _ => ∃ z : Str, vs = [.str z] ∧ z.length ≤ 1000 ∧ ∀ H', Same H H' → Q (.str (dirP z)) H'
theorem ok_dirof {f : Addr} {fd : FuncData} {k : Nat} (F : Fun K "directory_of" "directory_of" s_directory_of f fd) : FnOk P w K mg base CX0 (k + 2) f fd ["path"] spDirOf := by
  refine F.ok sc_directory_of (fun vs H Q E h => ?_) (fun cdv A outer s H vs Q E hr h => ?_)
  · obtain ⟨z, rfl, _⟩ := h
    rfl
  · obtain ⟨z, rfl, hz, q⟩ := h
    have hu := hu_of hr
    have nd := sc_directory_of.nd
    refine ⟨_, (pss_one (ps_ret (pe_ix (ix_tupK K) (pe_rpart (pv 0) pe_str) pe_int (fun _ _ => rfl)))), ?_⟩
    walk_at "rd"
    refine ⟨z, _, rfl, rfl, by decide, Nat.le_trans hz (by decide), fun p hp => ?_⟩
    walk_at "rd"
    exact q _ (same_new hp)
def spIsPath : Sp := fun vs H Q _ => ∃ z : Str, vs = [.str z] ∧ z.length ≤ 1000 ∧ ∀ H', Same H H' → Q (.bl (pathB z)) H'
theorem ok_ispath {f aNP : Addr} {fd : FuncData} {k : Nat} (F : Fun K "is_path" "is_path" s_is_path f fd) (m1 : mg "any" = none) (m_NP : mg "NO_PARTS" = some (.ref aNP)) (np : ∀ H, SqT K H aNP [.str "", .str ".", .str ".."]) (c_is_name : CalT P w K mg base 2 "is_name" (spName K)) : FnOk P w K mg base CX0 (k + 3) f fd ["thing"] spIsPath := by
  refine F.ok sc_is_path (fun vs H Q E h => ?_) (fun cdv A outer s H vs Q E hr h => ?_)
  · obtain ⟨z, rfl, _⟩ := h
    rfl
  · obtain ⟨z, rfl, hz, q⟩ := h
    have hu := hu_of hr
    have nd := sc_is_path.nd
    refine ⟨_, (pss_cons (ps_if (pt_not (pt_val (pe_cc c_is_name hr (by omega) (by rfl) (pa_cons (pv 0) pa_nil))))
        (pss_one (ps_ret pe_bl))
        pss_nil)
      (pss_one (ps_ret (pe_not (pe_callB (call_anyK K) (by rfl) (by assumption) (by decide +kernel) (pa_cons (pe_lc (own := [("part", 1)]) (g := (gName 1)) (tt := tYes) rfl nd (pi_list (pe_splitN (pe_split (pv 0) pe_str))) (blkOk_by (N := N_is_path) (sc := defScope s_is_path) (by decide +kernel)) (fun _ _ _ _ _ => (pg_name (i := 1) nd rfl (Or.inl rfl))) (fun _ _ _ _ _ => pts_nil) (fun _ _ _ _ _ => (pe_cmpR (op_inK K) (pv 1) (pe_glob (v := .ref aNP) (by rfl) m_NP (by first | exact rfl | exact ⟨_, rfl⟩)) (by rfl)))) pa_nil)))))), ?_⟩
    walk_at "rd"
    refine sp_name (.inl ⟨z, rfl, by omega⟩) fun H1 e1 => ?_
    show ∃ k, V.bl (nameB z) = V.bl k ∧ _
    refine ⟨_, rfl, ?_⟩
    have hz' : z.length + 2 ≤ sizeLine := Nat.le_trans (Nat.add_le_add_right hz 2) (by decide)
    have hn : (Txt.split z "/").length ≤ 1002 := Nat.le_trans (PyProof.Rows.split_le z "/") (by omega)
    unfold pathB at q
    cases hb : nameB z with
    | false =>
      rw [hb] at q
      walk_at "rd"
      exact q _ e1
    | true =>
      rw [hb] at q
      walk_at "rd"
      refine r_split (by decide) hz' fun L hL => ?_
      refine ⟨L, rfl, ⟨_, SqL.of upd_same⟩, ?_⟩
      intro D hD
      refine lc_map (cs := Txt.split z "/") (enc := V.str) (f := fun p => V.bl (noPart p)) walk_list hD (Nat.lt_of_le_of_lt hn (by decide)) (fun H' e => SqL.of (e _ _ upd_same)) (fun x => rfl) ?_ ?_
      · intro p hp H' e Q' k'
        walk_at "rd"
        refine r_inT (np _) rfl rfl ?_
        rw [show inV (.str p) [.str "", .str ".", .str ".."] = noPart p by simp [inV, noPart, eqV]]
        exact k' _ (Same.refl _)
      · intro H' e hl
        walk_at "rd"
        refine r_any (bs := (Txt.split z "/").map noPart) (by rw [List.map_map]; exact SqL.of hl) ?_
        walk_at "rd"
        rw [List.any_map] at *
        exact q _ ((e1.trans (same_new hL)).trans e)
end
abbrev s_kind_at : Stmt := topS 54
abbrev N_kind_at : List Str := ["path", "things"]
theorem sc_kind_at : FnScope N_kind_at ["path", "things"] (defScope s_kind_at) := ⟨rfl, rfl, rfl, by decide +kernel, rfl, by decide +kernel, by decide +kernel⟩
/-! ### tables by texts -/
section
variable {α β : Type}
def look (l : List (Str × α)) (z : Str) : Option α := (l.find? fun q => decide (q.1 = z)).map (·.2)
def putA (l : List (Str × α)) (z : Str) (x : α) : List (Str × α) := if (l.any fun q => decide (q.1 = z)) = true then l.map (fun q => if q.1 = z then (q.1, x) else q) else l ++ [(z, x)]
def dropA (l : List (Str × α)) (z : Str) : List (Str × α) := l.filter fun q => decide (q.1 ≠ z)
theorem look_nil {z : Str} : look ([] : List (Str × α)) z = none := rfl
theorem look_cons {z y : Str} {x : α} {l : List (Str × α)} : look ((y, x) :: l) z = if y = z then some x else look l z := by
  unfold look
  rw [List.find?_cons]
  by_cases h : y = z
  · rw [if_pos h]
    simp [h]
  · rw [if_neg h]
    simp [h]
theorem look_any {z : Str} : ∀ {l : List (Str × α)}, (l.any fun q => decide (q.1 = z)) = (look l z).isSome
  | [] => rfl
  | (y, x) :: l => by
    rw [List.any_cons, look_any, look_cons]
    by_cases h : y = z <;> simp [h]
theorem look_app {z : Str} {l m : List (Str × α)} : look (l ++ m) z = (look l z).or (look m z) := by
  induction l with
  | nil => rfl
  | cons q l ih =>
    obtain ⟨y, x⟩ := q
    rw [List.cons_append, look_cons, look_cons, ih]
    by_cases h : y = z <;> simp [h]
theorem look_rep {z y : Str} {x : α} : ∀ {l : List (Str × α)}, look (l.map fun q => if q.1 = z then (q.1, x) else q) y = (look l y).map fun v => if y = z then x else v
  | [] => rfl
  | (k, v) :: l => by
    rw [List.map_cons, look_cons]
    by_cases h : k = z
    · rw [if_pos h, look_cons, look_rep]
      by_cases g : k = y
      · rw [if_pos g, if_pos g, Option.map_some, if_pos (g ▸ h)]
      · rw [if_neg g, if_neg g]
    · rw [if_neg h, look_cons, look_rep]
      by_cases g : k = y
      · rw [if_pos g, if_pos g, Option.map_some, if_neg (g ▸ h)]
      · rw [if_neg g, if_neg g]
theorem look_put {l : List (Str × α)} {z y : Str} {x : α} : look (putA l z x) y = if y = z then some x else look l y := by
  unfold putA
  rw [look_any]
  cases h : look l z with
  | some v =>
    rw [if_pos (by rfl), look_rep]
    by_cases g : y = z
    · rw [if_pos g, g, h]
      simp
    · rw [if_neg g]
      cases look l y <;> simp [g]
  | none =>
    rw [if_neg (by simp), look_app, look_cons, look_nil]
    by_cases g : y = z
    · rw [if_pos g, g, h, if_pos rfl]
      rfl
    · rw [if_neg g, if_neg (Ne.symm g), Option.or_none]
theorem look_drop {z y : Str} : ∀ {l : List (Str × α)}, look (dropA l z) y = if y = z then none else look l y
  | [] => by simp [dropA, look]
  | (k, v) :: l => by
    unfold dropA
    rw [List.filter_cons]
    by_cases h : k = z
    · rw [if_neg (by simp [h])]
      show look (dropA l z) y = _
      rw [look_drop, look_cons]
      by_cases g : y = z
      · rw [if_pos g, if_pos g]
      · rw [if_neg g, if_neg g, if_neg (fun e => g (e.symm.trans h))]
    · rw [if_pos (by simp [h]), look_cons]
      show (if k = y then some v else look (dropA l z) y) = _
      rw [look_drop, look_cons]
      by_cases g : k = y
      · rw [if_pos g, if_pos g, if_neg (g ▸ h)]
      · rw [if_neg g, if_neg g]
theorem put_len {l : List (Str × α)} {z : Str} {x : α} : (putA l z x).length ≤ l.length + 1 := by
  unfold putA
  split
  · rw [List.length_map]; omega
  · rw [List.length_append]; exact Nat.le_refl _
/-- the dict of what stands for a table, one by one -/
def TabR (R : V → α → Prop) (ps : List (Key × V)) (l : List (Str × α)) : Prop := Paired (fun p q => p.1 = Sum.inr q.1 ∧ R p.2 q.2) ps l
theorem TabR.mono {R S : V → α → Prop} {ps : List (Key × V)} {l : List (Str × α)} (h : TabR R ps l) (k : ∀ v x, R v x → S v x) : TabR S ps l := Paired.mapP h fun _ _ g => ⟨g.1, k _ _ g.2⟩
theorem TabR.len {R : V → α → Prop} {ps : List (Key × V)} {l : List (Str × α)} (h : TabR R ps l) : ps.length = l.length := Paired.length h
theorem TabR.keys {R : V → α → Prop} : ∀ {ps : List (Key × V)} {l : List (Str × α)}, TabR R ps l → ps.map (·.1) = (l.map (·.1)).map Sum.inr
  | [], [], .nil => rfl
  | p :: ps, q :: l, .cons h r => by
    rw [List.map_cons, List.map_cons, List.map_cons, TabR.keys r, h.1]
theorem TabR.get {R : V → α → Prop} {z : Str} : ∀ {ps : List (Key × V)} {l : List (Str × α)}, TabR R ps l → (valV ps (Sum.inr z) = none ∧ look l z = none) ∨ ∃ v x, valV ps (Sum.inr z) = some v ∧ look l z = some x ∧ R v x
  | [], [], .nil => .inl ⟨rfl, rfl⟩
  | p :: ps, (y, x) :: l, .cons h r => by
    by_cases g : y = z
    · exact .inr ⟨p.2, x, valV_pos (by rw [h.1, g]), by rw [look_cons, if_pos g], h.2⟩
    · rw [valV_neg (p := p) (by rw [h.1]; exact fun e => g (Sum.inr.inj e)), look_cons, if_neg g]
      exact TabR.get r
theorem TabR.any {R : V → α → Prop} {z : Str} {ps : List (Key × V)} {l : List (Str × α)} (h : TabR R ps l) : (ps.any fun p => decide (p.1 = Sum.inr z)) = l.any fun q => decide (q.1 = z) := by
  rw [valV_any, look_any]
  rcases h.get (z := z) with ⟨h1, h2⟩ | ⟨v, x, h1, h2, _⟩ <;> rw [h1, h2] <;> rfl
theorem TabR.rep {R : V → α → Prop} {z : Str} {v : V} {x : α} (hv : R v x) : ∀ {ps : List (Key × V)} {l : List (Str × α)}, TabR R ps l → TabR R (ps.map fun p => if p.1 = Sum.inr z then (p.1, v) else p) (l.map fun q => if q.1 = z then (q.1, x) else q)
  | [], [], .nil => .nil
  | p :: ps, (y, u) :: l, .cons h r => by
    refine .cons ?_ (TabR.rep hv r)
    dsimp only
    by_cases g : y = z
    · rw [if_pos (by rw [h.1, g]), if_pos g]
      exact ⟨h.1, hv⟩
    · rw [if_neg (by rw [h.1]; exact fun e => g (Sum.inr.inj e)), if_neg g]
      exact h
theorem TabR.put {R : V → α → Prop} {z : Str} {v : V} {x : α} {ps : List (Key × V)} {l : List (Str × α)} (h : TabR R ps l) (hv : R v x) : TabR R (putK ps (Sum.inr z) v) (putA l z x) := by
  unfold putK putA
  rw [h.any]
  split
  · exact h.rep hv
  · exact paired_snoc h ⟨rfl, hv⟩
theorem TabR.drop {R : V → α → Prop} {z : Str} : ∀ {ps : List (Key × V)} {l : List (Str × α)}, TabR R ps l → TabR R (dropK ps (Sum.inr z)) (dropA l z)
  | [], [], .nil => .nil
  | p :: ps, (y, u) :: l, .cons h r => by
    unfold dropK dropA
    rw [List.filter_cons, List.filter_cons]
    by_cases g : y = z
    · rw [if_neg (by rw [h.1, g]; simp), if_neg (by simp [g])]
      exact TabR.drop r
    · rw [if_pos (by rw [h.1]; simp [g]), if_pos (by simp [g])]
      exact .cons h (TabR.drop r)
end
/-! ### things -/
inductive Thg where
  | dir (m t : Int)
  | file (y : Array UInt8) (m t : Int)
  | sym (g : Str) (m t : Int)
  | lnk (f : Str)
def Thg.vals : Thg → List V
  | .dir m t => [.str "directory", .int m, .int t]
  | .file y m t => [.str "file", .byt y, .int m, .int t]
  | .sym g m t => [.str "symlink", .str g, .int m, .int t]
  | .lnk f => [.str "link", .str f]
def Thg.kind : Thg → Str
  | .dir .. => "directory"
  | .file .. => "file"
  | .sym .. => "symlink"
  | .lnk .. => "link"
theorem Thg.vals0 (x : Thg) : ∃ r, x.vals = .str x.kind :: r := by cases x <;> exact ⟨_, rfl⟩
/-- a value is a thing -/
def Thg.At (K : PySem.W.Frag) (H : Hp) (v : V) (x : Thg) : Prop := ∃ t, v = .ref t ∧ SqT K H t x.vals
theorem Thg.At.same {K : PySem.W.Frag} {H H' : Hp} {v : V} {x : Thg} (e : Same H H') (h : Thg.At K H v x) : Thg.At K H' v x := by
  obtain ⟨t, h1, h2⟩ := h
  refine ⟨t, h1, ?_⟩
  rcases h2 with h2 | h2
  · exact .inl (h2.elim (fun g => .inl (e _ _ g)) fun ⟨o, g⟩ => .inr ⟨o, e _ _ g⟩)
  · exact .inr h2
/-- a dict of things, to be read -/
def ThR (K : PySem.W.Frag) (H : Hp) (D : Addr) (l : List (Str × Thg)) : Prop := ∃ ps, Rd H D (.dK ps) ∧ TabR (Thg.At K H) ps l
def kindA (l : List (Str × Thg)) (z : Str) : Str := ((look l z).map Thg.kind).getD ""
section
variable {P : Program} {w : World} {K : PySem.W.Frag} {mg : Str → Option Value} {base : Heap}
def spKindAt (K : PySem.W.Frag) : Sp := fun vs H Q _ => ∃ (z : Str) (D : Addr) (l : List (Str × Thg)), vs = [.str z, .ref D] ∧ ThR K H D l ∧ Q (.str (kindA l z)) H
theorem ok_kindat {f : Addr} {fd : FuncData} {k : Nat} (F : Fun K "kind_at" "kind_at" s_kind_at f fd) : FnOk P w K mg base CX0 (k + 2) f fd ["path", "things"] (spKindAt K) := by
  refine F.ok sc_kind_at (fun vs H Q E h => ?_) (fun cdv A outer s H vs Q E hr h => ?_)
  · obtain ⟨z, D, l, rfl, _⟩ := h
    rfl
  · obtain ⟨z, D, l, rfl, ⟨ps, hD, ht⟩, q⟩ := h
    have hu := hu_of hr
    have nd := sc_kind_at.nd
    unfold kindA at q
    refine ⟨_, (pss_one (ps_ret (pe_ifExp (pt_cmp (pc_din hu (pv 0) (pv 1))) (pe_ix (ix_tupK K) (pe_dget hu (pv 1) (pv 0) (fun _ _ => rfl)) pe_int (fun _ _ => rfl)) pe_str))), ?_⟩
    walk_at "rd"
    refine ⟨D, valV ps (Sum.inr z), rfl, .inl ⟨ps, Sum.inr z, hD, rfl, rfl⟩, _, rfl, ?_⟩
    rcases ht.get (z := z) with ⟨h1, h2⟩ | ⟨v, x, h1, h2, t, rfl, hx⟩
    · rw [h1]
      rw [h2] at q
      walk_at "rd"
      exact q
    · rw [h1]
      rw [h2] at q
      obtain ⟨r, hr'⟩ := x.vals0
      rw [hr'] at hx
      rw [if_pos (show (some (V.ref t)).isSome = true from rfl)]
      walk_at "rd"
      refine ⟨D, .ref t, rfl, .inl ⟨ps, Sum.inr z, hD, rfl, h1.symm⟩, ?_⟩
      walk_at "rd"
      refine r_ixT (i := 0) (v := .str x.kind) hx (atI_nat (j := 0) rfl) ?_
      exact q
/-- a thing that may stand in an entry -/
def Thg.Ok : Thg → Prop
  | .dir m t => 0 ≤ m ∧ m ≤ 4095 ∧ 0 ≤ t ∧ t ≤ 8589934591
  | .file y m t => y.size ≤ 4096 ∧ 0 ≤ m ∧ m ≤ 4095 ∧ 0 ≤ t ∧ t ≤ 8589934591
  | .sym g m t => nameB g = true ∧ 0 ≤ m ∧ m ≤ 4095 ∧ 0 ≤ t ∧ t ≤ 8589934591
  | .lnk _ => True
end
/-! ### entries -/
theorem dec_strV {a b : Str} : decide (V.str a = V.str b) = decide (a = b) := decide_eq_decide.mpr ⟨V.str.inj, congrArg V.str⟩
def EntAt (K : PySem.W.Frag) (H : Hp) (v : V) (q : Str × Thg) : Prop := ∃ e u, v = .ref e ∧ SqT K H e [.str q.1, u] ∧ Thg.At K H u q.2
theorem sqT_same {K : PySem.W.Frag} {H H' : Hp} {t : Addr} {xs : List V} (e : Same H H') (h : SqT K H t xs) : SqT K H' t xs := by
  rcases h with h2 | h2
  · exact .inl (h2.elim (fun g => .inl (e _ _ g)) fun ⟨o, g⟩ => .inr ⟨o, e _ _ g⟩)
  · exact .inr h2
theorem EntAt.same {K : PySem.W.Frag} {H H' : Hp} {v : V} {q : Str × Thg} (s : Same H H') (h : EntAt K H v q) : EntAt K H' v q := by
  obtain ⟨e, u, h1, h2, h3⟩ := h
  exact ⟨e, u, h1, sqT_same s h2, h3.same s⟩
theorem ThR.same {K : PySem.W.Frag} {H H' : Hp} {D : Addr} {l : List (Str × Thg)} (s : Same H H') (h : ThR K H D l) : ThR K H' D l := by
  obtain ⟨ps, h1, h2⟩ := h
  exact ⟨ps, h1.elim (fun g => .inl (s _ _ g)) fun ⟨o, g⟩ => .inr ⟨o, s _ _ g⟩, h2.mono fun _ _ g => g.same s⟩
/-! ### all the entries -/
theorem look_none {α : Type} {z : Str} : ∀ {l : List (Str × α)}, z ∉ l.map (·.1) → look l z = none
  | [], _ => rfl
  | (y, x) :: l, h => by
    rw [List.map_cons, List.mem_cons, not_or] at h
    rw [look_cons, if_neg (Ne.symm h.1), look_none h.2]
theorem put_new {α : Type} {l : List (Str × α)} {z : Str} {x : α} (h : look l z = none) : putA l z x = l ++ [(z, x)] := by
  unfold putA
  rw [look_any, h, if_neg (by simp)]
theorem look_nd {α : Type} {z : Str} {x : α} : ∀ {l : List (Str × α)}, (l.map (·.1)).Nodup → (z, x) ∈ l → look l z = some x
  | [], _, h => nomatch h
  | (y, u) :: l, nd, h => by
    rw [List.map_cons, List.nodup_cons] at nd
    rw [look_cons]
    rcases List.mem_cons.mp h with e | h
    · cases e
      rw [if_pos rfl]
    · rw [if_neg (fun e => nd.1 (by rw [e]; exact List.mem_map.mpr ⟨_, h, rfl⟩)), look_nd nd.2 h]
/-! ### methods that take self only -/
structure MethT (P : Program) (w : World) (K : PySem.W.Frag) (mg : Str → Option Value) (base : Heap) (k : Nat) (C : Addr) (m : Str) (sp : Sp) : Prop where
  ex : ∃ (f : Addr) (fd : FuncData), FnOk P w K mg base CX0 k f fd ["self"] sp ∧ Cls K C ∧ Meth K C m f ∧ Binds K fd ["self"] []
section
variable {X : Cx} {j k : Nat} {C : Addr} {m : Str} {sp : Sp} {o : Expr} {ta : TE} {apos pos : Pos}
theorem pe_mt0 {pl : Sem Bool} (c : MethT X.prog X.w X.K X.mg X.base k C m sp) (hr : Room j X.A) (hk : k ≤ j) (he : PE X o ta)
    (ht : eval (.Call (.Attribute o m apos) [] [] pos) X.env = (do
      let ov ← eval o X.env
      standAt apos.atName
      let (f, first) ← holding [ov] (getMethod ov m pl)
      callWith pos f first (backTo pos (starEach [] X.env)) (backToKw pos (keywordEach [] X.env))) := by rfl) : PE X (.Call (.Attribute o m apos) [] [] pos) (tMeth C m sp [] E0 ta tNil) := by
  obtain ⟨f, fd, F, hc, hm, hb⟩ := c.ex
  exact pe_meth0 he hc hm F (hr.mono hk) hb .nil pass0 ht
theorem r_meth {σ : L2.St} {H : Hp} {Q : VK} {dvs : List V} {E : XK} {t : TA} (h : ta σ H fun x H1 => ∃ a dx fs, x = .ref a ∧ H1 a = some (.ins C dx fs) ∧ fs.lookup m = none ∧ t σ H1 fun vs H2 => sp (x :: (vs ++ dvs)) H2 Q E) : tMeth C m sp dvs E ta t σ H Q := h
end
structure CF (K : PySem.W.Frag) (C aM : Addr) (kind : Str) : Prop where
  cl : Cls K C
  ha : PySem.W.findIn K (.ref C) "__class__" = some (some (.builtin "object.__class__"))
  hn : PySem.W.specialIn K (.builtin "object.__class__") "__get__" = some (some (.builtin "getset_descriptor.__get__"))
  htk : PySem.W.takesIn K (.builtin "object.__class__") = some true
  hm : PySem.W.mroIn K C (.type "object") = some true
  kit : PySem.W.kitOne K (.ref C) (.ref aM) = some true
  con : ∃ u, Con K C "KIND" (.str kind) u
  n1 : NoAttr K C "name"
  n2 : NoAttr K C "mode"
  n3 : NoAttr K C "time"
/-! ### what a member's class is -/
structure Kits (K : PySem.W.Frag) (c : Cs) : Prop where
  ff : PySem.W.kitOne K (.ref c.F) (.ref c.F) = some true
  fs : PySem.W.kitOne K (.ref c.F) (.ref c.S) = some false
  fy : PySem.W.kitOne K (.ref c.F) (.ref c.Y) = some false
  fl : PySem.W.kitOne K (.ref c.F) (.ref c.L) = some false
  sf : PySem.W.kitOne K (.ref c.S) (.ref c.F) = some false
  ss : PySem.W.kitOne K (.ref c.S) (.ref c.S) = some true
  sy : PySem.W.kitOne K (.ref c.S) (.ref c.Y) = some false
  sl : PySem.W.kitOne K (.ref c.S) (.ref c.L) = some false
  df : PySem.W.kitOne K (.ref c.D) (.ref c.F) = some false
  ds : PySem.W.kitOne K (.ref c.D) (.ref c.S) = some false
  dy : PySem.W.kitOne K (.ref c.D) (.ref c.Y) = some false
  dl : PySem.W.kitOne K (.ref c.D) (.ref c.L) = some false
  yf : PySem.W.kitOne K (.ref c.Y) (.ref c.F) = some false
  ys : PySem.W.kitOne K (.ref c.Y) (.ref c.S) = some false
  yy : PySem.W.kitOne K (.ref c.Y) (.ref c.Y) = some true
  lf : PySem.W.kitOne K (.ref c.L) (.ref c.F) = some false
  ls : PySem.W.kitOne K (.ref c.L) (.ref c.S) = some false
  ly : PySem.W.kitOne K (.ref c.L) (.ref c.Y) = some false
  ll : PySem.W.kitOne K (.ref c.L) (.ref c.L) = some true
/-- the classes of members, as the program reads them -/
structure MF (K : PySem.W.Frag) (c : Cs) (aM : Addr) : Prop where
  kt : Kits K c
  fF : CF K c.F aM "file"
  fS : CF K c.S aM "sparse"
  fD : CF K c.D aM "directory"
  fY : CF K c.Y aM "symlink"
  fL : CF K c.L aM "link"
  tF : NoAttr K c.F "data"
  tS : NoAttr K c.S "pieces"
  tZ : NoAttr K c.S "size"
  tY : NoAttr K c.Y "target"
  tL : NoAttr K c.L "target"
theorem CF.ty {K : PySem.W.Frag} {C aM a dx : Addr} {kind : Str} {fs : List (Str × V)} {H : Hp} (c : CF K C aM kind) (h1 : H a = some (.ins C dx fs)) : TyX K H (.ref a) (.ref C) := .base (.ins h1 c.cl c.ha c.hn c.htk c.hm)
def Mem.tgt : Mem → Str
  | .sym _ _ _ g => g
  | .lnk _ _ _ g => g
  | _ => ""
def Mem.nm : Mem → Str
  | .file n .. => n
  | .sparse n .. => n
  | .dir n .. => n
  | .sym n .. => n
  | .lnk n .. => n
theorem kit2 {K : PySem.W.Frag} {t a b : Value} {x y : Bool} (h1 : PySem.W.kitOne K t a = some x) (h2 : PySem.W.kitOne K t b = some y) : PySem.W.kitAny K t [a, b] = some (x || y) := by
  cases x <;> cases y <;> simp only [PySem.W.kitAny, h1, h2] <;> rfl
theorem kit2t {K : PySem.W.Frag} {t a b : Value} (h1 : PySem.W.kitOne K t a = some true) : PySem.W.kitAny K t [a, b] = some true := by simp only [PySem.W.kitAny, h1]
section
variable {P : Program} {w : World} {K : PySem.W.Frag} {mg : Str → Option Value} {base : Heap}
def spTarget (c : Cs) : Sp := fun vs H Q _ => ∃ (x : Addr) (m : Mem), vs = [.ref x] ∧ m.Ins c H x ∧ ∀ H', Same H H' → Q (.str m.tgt) H'
theorem r_isT {K : PySem.W.Frag} {x tp : Addr} {C a b : Addr} {H : Hp} {r : Bool} {Q : VK} (ty : TyX K H (.ref x) (.ref C)) (ht : H tp = some (.tup [.ref a, .ref b])) (hk : PySem.W.kitAny K (.ref C) [.ref a, .ref b] = some r) (q : Q (.bl r) H) : rIsiT K [.ref x, .ref tp] H Q :=
  ⟨.ref x, tp, _, .ref C, _, r, rfl, ht, .cons (.own a) (.cons (.own b) .nil), ty, hk, q⟩
theorem r_is1 {K : PySem.W.Frag} {x : Addr} {C a : Addr} {H : Hp} {r : Bool} {Q : VK} (ty : TyX K H (.ref x) (.ref C)) (hk : PySem.W.kitOne K (.ref C) (.ref a) = some r) (q : Q (.bl r) H) : rIsi K [.ref x, .ref a] H Q :=
  ⟨.ref x, .ref a, .ref C, .ref a, r, rfl, .own a, ty, hk, q⟩
theorem ok_target {f aM : Addr} {fd : FuncData} {k : Nat} {c : Cs} (F : Fun K "target_of" "target_of" s_target_of f fd) (m1 : mg "isinstance" = none) (M : MF K c aM) (m_Y : mg "Symlink" = some (.ref c.Y)) (m_L : mg "Link" = some (.ref c.L)) : FnOk P w K mg base CX0 (k + 2) f fd ["member"] (spTarget c) := by
  refine F.ok sc_target_of (fun vs H Q E h => ?_) (fun cdv A outer s H vs Q E hr h => ?_)
  · obtain ⟨x, m, rfl, _⟩ := h
    rfl
  · obtain ⟨x, m, rfl, hin, q⟩ := h
    have hu := hu_of hr
    have nd := sc_target_of.nd
    refine ⟨_, (pss_cons (ps_if (pt_val (pe_callB (call_isiK2 K) (by rfl) (by assumption) (by decide +kernel) (pa_cons (pv 0) (pa_cons (pe_tup (pa_cons (pe_glob (v := .ref c.Y) (by rfl) m_Y (by first | exact rfl | exact ⟨_, rfl⟩)) (pa_cons (pe_glob (v := .ref c.L) (by rfl) m_L (by first | exact rfl | exact ⟨_, rfl⟩)) pa_nil))) pa_nil))))
        (pss_one (ps_ret (pe_fld (pv 0) rfl)))
        pss_nil)
      (pss_one (ps_ret pe_str))), ?_⟩
    cases m with
    | file n b t ns =>
      obtain ⟨dx, hx⟩ := hin
      walk_at "rd"
      rename_i tp htp
      refine r_isT (M.fF.ty (upd_old htp hx)) upd_same (kit2 M.kt.fy M.kt.fl) ?_
      walk_at "rd"
      exact q _ (same_new htp)
    | sparse n b t z sp =>
      obtain ⟨dx, p, hx, hp⟩ := hin
      walk_at "rd"
      rename_i tp htp
      refine r_isT (M.fS.ty (upd_old htp hx)) upd_same (kit2 M.kt.sy M.kt.sl) ?_
      walk_at "rd"
      exact q _ (same_new htp)
    | dir n b t =>
      obtain ⟨dx, hx⟩ := hin
      walk_at "rd"
      rename_i tp htp
      refine r_isT (M.fD.ty (upd_old htp hx)) upd_same (kit2 M.kt.dy M.kt.dl) ?_
      walk_at "rd"
      exact q _ (same_new htp)
    | sym n b t g =>
      obtain ⟨dx, hx⟩ := hin
      walk_at "rd"
      rename_i tp htp
      have hx1 := upd_old (o := .tup [V.ref c.Y, V.ref c.L]) htp hx
      refine r_isT (M.fY.ty hx1) upd_same (kit2t M.kt.yy) ?_
      walk_at "rd"
      refine r_fldE hx1 M.fY.cl M.tY rfl ?_
      walk_at "rd"
      exact q _ (same_new htp)
    | lnk n b t g =>
      obtain ⟨dx, hx⟩ := hin
      walk_at "rd"
      rename_i tp htp
      have hx1 := upd_old (o := .tup [V.ref c.Y, V.ref c.L]) htp hx
      refine r_isT (r := true) (M.fL.ty hx1) upd_same (kit2 M.kt.ly M.kt.ll) ?_
      walk_at "rd"
      refine r_fldE hx1 M.fL.cl M.tL rfl ?_
      walk_at "rd"
      exact q _ (same_new htp)
end
/-! ### methods with arguments; a star and keywords -/
structure MetA (P : Program) (w : World) (K : PySem.W.Frag) (mg : Str → Option Value) (base : Heap) (k : Nat) (C : Addr) (m : Str) (ps : List Str) (sp : Sp) : Prop where
  ex : ∃ (f : Addr) (fd : FuncData), FnOk P w K mg base CX0 k f fd ps sp ∧ Cls K C ∧ Meth K C m f ∧ Binds K fd ps []
section
variable {X : Cx} {j k : Nat} {C : Addr} {m : Str} {ps : List Str} {sp : Sp} {o e : Expr} {es : List Expr} {ta : TE} {t : TA} {apos pos : Pos}
theorem pe_mtA {pl : Sem Bool} (c : MetA X.prog X.w X.K X.mg X.base k C m ps sp) (hr : Room j X.A) (hk : k ≤ j) (he : PE X o ta) (ha : PA X (e :: es) t)
    (hst : starEach (e :: es) X.env = (false, eval e X.env) :: starEach es X.env := by rfl) (hpl : (backTo pos (starEach es X.env)).any (·.1) = false := by rfl)
    (ht : eval (.Call (.Attribute o m apos) (e :: es) [] pos) X.env = (do
      let ov ← eval o X.env
      standAt apos.atName
      let (f, first) ← holding [ov] (getMethod ov m pl)
      callWith pos f first (backTo pos (starEach (e :: es) X.env)) (backToKw pos (keywordEach [] X.env))) := by rfl) :
    PE X (.Call (.Attribute o m apos) (e :: es) [] pos) (tMeth C m sp [] E0 ta t) := by
  obtain ⟨f, fd, F, hc, hm, hb⟩ := c.ex
  exact pe_meth he hc hm F (hr.mono hk) hb .nil pass0 ha hst hpl ht
theorem pe_mtA0 {pl : Sem Bool} (c : MetA X.prog X.w X.K X.mg X.base k C m ps sp) (hr : Room j X.A) (hk : k ≤ j) (he : PE X o ta)
    (ht : eval (.Call (.Attribute o m apos) [] [] pos) X.env = (do
      let ov ← eval o X.env
      standAt apos.atName
      let (f, first) ← holding [ov] (getMethod ov m pl)
      callWith pos f first (backTo pos (starEach [] X.env)) (backToKw pos (keywordEach [] X.env))) := by rfl) : PE X (.Call (.Attribute o m apos) [] [] pos) (tMeth C m sp [] E0 ta tNil) := by
  obtain ⟨f, fd, F, hc, hm, hb⟩ := c.ex
  exact pe_meth0 he hc hm F (hr.mono hk) hb .nil pass0 ht
end
def ps_fldaugN {X : Cx} (K : PySem.W.Frag) {o value : Expr} {f : Str} {pos tpos : Pos} {ta tv : TE} {op : Operator} {rd : V → V → Hp → VK → Prop} (ha : PE X o ta) (hv : PE X value tv) (hop : InOp X op rd) (h : X.K = K := by rfl) : PS X (.AugAssign (.Attribute o f tpos) op value pos) (sFldAug K ta tv rd f) := h ▸ ps_fldaug ha hv hop
/-! ### the pieces cut out of the stored bytes -/
/-! ### own objects: rules -/
structure Mk0T (P : Program) (w : World) (K : PySem.W.Frag) (mg : Str → Option Value) (base : Heap) (k : Nat) (x : Str) (C : Addr) (sp : Sp) : Prop where
  ex : ∃ (f : Addr) (fd : FuncData), Mk K C f ∧ FnOk P w K mg base CX0 k f fd ["self"] sp ∧ Binds K fd ["self"] [] ∧ mg x = some (.ref C)
theorem pe_mk0 {X : Cx} {j k : Nat} {C : Addr} {x : Str} {sp : Sp} {p pos : Pos} (c : Mk0T X.prog X.w X.K X.mg X.base k x C sp) (hr : Room j X.A) (hk : k + 1 ≤ j) (hg : Gl X x) (hdb : (x == ("__debug__" : Str)) = false := by decide) :
    PE X (.Call (.Name x p) [] [] pos) (tMake C sp [] E0 tNil) := by
  obtain ⟨f, fd, M, F, hb, hm⟩ := c.ex
  exact pe_make0 M F (hr.mono hk) hg hm hb .nil pass0 hdb
theorem r_make {C : Addr} {sp : Sp} {dvs : List V} {E : XK} {t : TA} {σ : L2.St} {H : Hp} {Q : VK} (h : t σ H fun vs H1 => ∀ x dx, H1 x = none → H1 dx = none → dx ≠ x → sp (.ref x :: (vs ++ dvs)) (upd (upd H1 dx (.own x)) x (.ins C dx [])) (fun v H2 => v = .non ∧ Q (.ref x) H2) E) : tMake C sp dvs E t σ H Q := h
/-! ### [bytes, ..] != [bytes, ..], of equal ones -/
abbrev s_House___init__ : Stmt := inClass (topS 48) 0
abbrev N_House___init__ : List Str := ["self"]
theorem sc_House___init__ : FnScope N_House___init__ ["self"] (defScope s_House___init__) := ⟨rfl, rfl, rfl, by decide +kernel, rfl, by decide +kernel, by decide +kernel⟩
/-! ### houses -/
structure HsC (K : PySem.W.Frag) (C : Addr) : Prop where
  cl : Cls K C
  rows : NoAttr K C "rows"
  things : NoAttr K C "things"
  firsts : NoAttr K C "firsts"
def hsF (R T F : Addr) : List (Str × V) := putF "firsts" (.ref F) (putF "things" (.ref T) (putF "rows" (.ref R) []))
structure Hs where
  rows : List (Str × Thg)
  things : List (Str × Thg)
  firsts : List (Str × Str)
/-- the house at x -/
structure HsIn (K : PySem.W.Frag) (C : Addr) (H : Hp) (x dx R T F : Addr) (vs : List V) (ps qs : List (Key × V)) (h : Hs) : Prop where
  ob : H x = some (.ins C dx (hsF R T F))
  r : H R = some (.tup vs)
  pr : Paired (EntAt K H) vs h.rows
  t : H T = some (.dK ps)
  pt : TabR (Thg.At K H) ps h.things
  f : H F = some (.dK qs)
  pf : TabR (fun v z => v = .str z) qs h.firsts
  ne : T ≠ F
def HsAt (K : PySem.W.Frag) (C : Addr) (H : Hp) (x : Addr) (h : Hs) : Prop := ∃ dx R T F vs ps qs, HsIn K C H x dx R T F vs ps qs h
theorem HsIn.same {K : PySem.W.Frag} {C : Addr} {H H' : Hp} {x dx R T F : Addr} {vs : List V} {ps qs : List (Key × V)} {h : Hs} (g : HsIn K C H x dx R T F vs ps qs h) (e : Same H H') : HsIn K C H' x dx R T F vs ps qs h :=
  ⟨e _ _ g.ob, e _ _ g.r, Paired.mapP g.pr fun _ _ y => y.same e, e _ _ g.t, g.pt.mono fun _ _ y => y.same e, e _ _ g.f, g.pf, g.ne⟩
theorem HsAt.same {K : PySem.W.Frag} {C : Addr} {H H' : Hp} {x : Addr} {h : Hs} (e : Same H H') (g : HsAt K C H x h) : HsAt K C H' x h := by
  obtain ⟨dx, R, T, F, vs, ps, qs, g⟩ := g
  exact ⟨dx, R, T, F, vs, ps, qs, g.same e⟩
/-- the house at x with its two dicts -/
def HsTF (K : PySem.W.Frag) (C : Addr) (H : Hp) (x T F : Addr) (h : Hs) : Prop := ∃ dx R vs ps qs, HsIn K C H x dx R T F vs ps qs h
theorem HsTF.at {K : PySem.W.Frag} {C : Addr} {H : Hp} {x T F : Addr} {h : Hs} (g : HsTF K C H x T F h) : HsAt K C H x h := by
  obtain ⟨dx, R, vs, ps, qs, g⟩ := g
  exact ⟨dx, R, T, F, vs, ps, qs, g⟩
/-- a house whose dicts are new since H0 -/
def HsNw (K : PySem.W.Frag) (C : Addr) (H0 H : Hp) (x : Addr) (h : Hs) : Prop := ∃ T F, H0 T = none ∧ H0 F = none ∧ HsTF K C H x T F h
theorem HsNw.at {K : PySem.W.Frag} {C : Addr} {H0 H : Hp} {x : Addr} {h : Hs} (g : HsNw K C H0 H x h) : HsAt K C H x h := by
  obtain ⟨T, F, _, _, g⟩ := g
  exact g.at
section
variable {P : Program} {w : World} {K : PySem.W.Frag} {mg : Str → Option Value} {base : Heap}
def spHInit (C : Addr) : Sp := fun vs H Q _ => ∃ (x dx : Addr), vs = [.ref x] ∧ H x = some (.ins C dx []) ∧
  ∀ R T F H', H R = none → H T = none → H F = none → T ≠ F → Frame x H H' → H' x = some (.ins C dx (hsF R T F)) → H' R = some (.tup []) → H' T = some (.dK []) → H' F = some (.dK []) → Q .non H'
theorem ok_hinit {f C : Addr} {fd : FuncData} {k : Nat} (F : Fun K "__init__" "House.__init__" s_House___init__ f fd) (hc : HsC K C) : FnOk P w K mg base CX0 (k + 2) f fd ["self"] (spHInit C) := by
  refine F.ok sc_House___init__ (fun vs H Q E9 h => ?_) (fun cdv A outer s H vs Q E9 hr h => ?_)
  · obtain ⟨x, dx, rfl, _⟩ := h
    rfl
  · obtain ⟨x, dx, rfl, hx, q⟩ := h
    have hu := hu_of hr
    have nd := sc_House___init__.nd
    have hcl := hc.cl
    have a1 := hc.rows
    have a2 := hc.things
    have a3 := hc.firsts
    refine ⟨_, (pss_cons (ps_fld (pv 0) (pe_tup pa_nil) rfl)
      (pss_cons (ps_fld (pv 0) pe_dnewK rfl)
      (pss_one (ps_fld (pv 0) pe_dnewK rfl)))), ?_⟩
    walk_at "rd"
    rename_i R hR T hT F hF
    have xR : x ≠ R := ne_of_none hx hR
    have g1 : upd H R (.tup []) x = some (.ins C dx []) := upd_old hR hx
    have k1 : ∀ b o, b ≠ x → H b = some o → upd (upd H R (.tup [])) x (.ins C dx (putF (Str.ofString "rows") (V.ref R) [])) b = some o := fun b o nb e => by rw [upd_ne nb]; exact upd_old hR e
    have xT : x ≠ T := ne_of_none upd_same hT
    have RT : R ≠ T := ne_of_none (by rw [upd_ne xR.symm]; exact upd_same : upd (upd H R (.tup [])) x (.ins C dx (putF (Str.ofString "rows") (V.ref R) [])) R = some (.tup [])) hT
    have hTn : H T = none := by
      rw [upd_ne xT.symm, upd_ne RT.symm] at hT
      exact hT
    have xF : x ≠ F := ne_of_none upd_same hF
    have hF2 := hF
    rw [upd_ne xF.symm] at hF2
    have TF : T ≠ F := ne_of_none upd_same hF2
    rw [upd_ne TF.symm, upd_ne xF.symm] at hF2
    have RF : R ≠ F := ne_of_none upd_same hF2
    rw [upd_ne RF.symm] at hF2
    refine q R T F _ hR hTn hF2 TF (fun b o nb e => ?_) upd_same ?_ ?_ ?_
    · have e1 : b ≠ R := ne_of_none e hR
      have e2 : b ≠ T := ne_of_none e hTn
      have e3 : b ≠ F := ne_of_none e hF2
      rw [upd_ne nb, upd_ne e3, upd_ne nb, upd_ne e2, upd_ne nb, upd_ne e1]
      exact e
    · rw [upd_ne xR.symm, upd_ne RF, upd_ne xR.symm, upd_ne RT, upd_ne xR.symm]
      exact upd_same
    · rw [upd_ne xT.symm, upd_ne TF, upd_ne xT.symm]
      exact upd_same
    · rw [upd_ne xF.symm]
      exact upd_same
end
abbrev s_filled : Stmt := topS 49
abbrev N_filled : List Str := ["house", "things", "marks", "rows", "leasts", "path", "row", "first"]
theorem sc_filled : FnScope N_filled ["house", "things", "marks"] (defScope s_filled) := ⟨rfl, rfl, rfl, by decide +kernel, rfl, by decide +kernel, by decide +kernel⟩
/-! ### a house is filled -/
/-- marks, to be read -/
def MkR (H : Hp) (M : Addr) (ms : List (Str × Key)) : Prop := ∃ ps, Rd H M (.dK ps) ∧ TabR (fun v k => v = kV k) ps ms
/-- the first path with the mark -/
def firstM (ms : List (Str × Key)) (ys : List Str) (k : Key) : Option Str := ys.find? fun p => decide (look ms p = some k)
def firstOf (ms : List (Str × Key)) (ys : List Str) (p : Str) : Str := ((look ms p).bind (firstM ms ys)).getD p
def firstsP (ms : List (Str × Key)) (ys : List Str) : List Str → List (Str × Str)
  | [] => []
  | p :: r => (if (look ms p).isSome = true then [(p, firstOf ms ys p)] else []) ++ firstsP ms ys r
def thingP (l : List (Str × Thg)) (p : Str) : Thg := (look l p).getD (.lnk "")
def rowP (l : List (Str × Thg)) (ms : List (Str × Key)) (ys : List Str) (p : Str) : Thg := if firstOf ms ys p = p then thingP l p else .lnk (firstOf ms ys p)
def hsOf (l : List (Str × Thg)) (ms : List (Str × Key)) (ys : List Str) : Hs := ⟨ys.map fun p => (p, rowP l ms ys p), ys.map fun p => (p, thingP l p), firstsP ms ys ys⟩
theorem hsF_put {R R' T F : Addr} : putF "rows" (.ref R') (hsF R T F) = hsF R' T F := rfl
theorem firstM_app {ms : List (Str × Key)} {ys zs : List Str} {k : Key} : firstM ms (ys ++ zs) k = (firstM ms ys k).or (firstM ms zs k) := List.find?_append
theorem firstM_one {ms : List (Str × Key)} {z : Str} {k : Key} : firstM ms [z] k = if look ms z = some k then some z else none := by
  unfold firstM
  rw [List.find?_cons]
  by_cases h : look ms z = some k
  · rw [if_pos h, decide_eq_true h]
  · rw [if_neg h, decide_eq_false h]
    rfl
theorem firstM_pre {ms : List (Str × Key)} {ys : List Str} {k : Key} {f : Str} {j : Nat} (h : firstM ms (ys.take j) k = some f) : firstM ms ys k = some f := by
  rw [← List.take_append_drop j ys, firstM_app, h]
  rfl
theorem firstsP_app {ms : List (Str × Key)} {ys : List Str} : ∀ {a b : List Str}, firstsP ms ys (a ++ b) = firstsP ms ys a ++ firstsP ms ys b
  | [], b => rfl
  | p :: a, b => by
    rw [List.cons_append]
    show _ ++ firstsP ms ys (a ++ b) = (_ ++ firstsP ms ys a) ++ _
    rw [firstsP_app, List.append_assoc]
theorem firstsP_one {ms : List (Str × Key)} {ys : List Str} {z : Str} : firstsP ms ys [z] = if (look ms z).isSome = true then [(z, firstOf ms ys z)] else [] := by
  show _ ++ [] = _
  rw [List.append_nil]
theorem firstsP_keys {ms : List (Str × Key)} {ys : List Str} : ∀ {a : List Str} {z : Str}, z ∈ (firstsP ms ys a).map (·.1) → z ∈ a
  | p :: a, z, h => by
    have h : z ∈ ((if (look ms p).isSome = true then [(p, firstOf ms ys p)] else []) ++ firstsP ms ys a).map (·.1) := h
    rw [List.map_append, List.mem_append] at h
    rcases h with h | h
    · split at h
      · rw [List.map_cons, List.map_nil, List.mem_singleton] at h
        rw [h]; exact List.mem_cons_self
      · cases h
    · exact List.mem_cons_of_mem _ (firstsP_keys h)
theorem firstsP_len {ms : List (Str × Key)} {ys : List Str} : ∀ {a : List Str}, (firstsP ms ys a).length ≤ a.length
  | [] => Nat.le_refl _
  | p :: a => by
    show ((if (look ms p).isSome = true then [(p, firstOf ms ys p)] else []) ++ firstsP ms ys a).length ≤ _
    rw [List.length_append, List.length_cons]
    have := firstsP_len (ms := ms) (ys := ys) (a := a)
    split
    · rw [List.length_singleton]; omega
    · rw [List.length_nil]; omega
/-- tuples stay -/
def TK (H H' : Hp) : Prop := (∀ b xs, H b = some (.tup xs) → H' b = some (.tup xs)) ∧ ∀ b o xs, H b = some (.frz o (.tup xs)) → H' b = some (.frz o (.tup xs))
theorem TK.refl (H : Hp) : TK H H := ⟨fun _ _ h => h, fun _ _ _ h => h⟩
theorem TK.trans {H H1 H2 : Hp} (a : TK H H1) (b : TK H1 H2) : TK H H2 := ⟨fun x xs h => b.1 x xs (a.1 x xs h), fun x o xs h => b.2 x o xs (a.2 x o xs h)⟩
theorem Same.tk {H H' : Hp} (e : Same H H') : TK H H' := ⟨fun _ _ h => e _ _ h, fun _ _ _ h => e _ _ h⟩
theorem tk_new {H : Hp} {b : Addr} {o : HO} (h : H b = none) : TK H (upd H b o) := Same.tk (same_new h)
theorem tk_dK {H : Hp} {b : Addr} {o : HO} {ps : List (Key × V)} (h : H b = some (.dK ps)) : TK H (upd H b o) :=
  ⟨fun a xs g => by rw [upd_ne (fun e => by rw [e, h] at g; cases g)]; exact g, fun a o1 xs g => by rw [upd_ne (fun e => by rw [e, h] at g; cases g)]; exact g⟩
theorem tk_lst {H : Hp} {b : Addr} {o : HO} {ps : List V} (h : H b = some (.lst ps)) : TK H (upd H b o) :=
  ⟨fun a xs g => by rw [upd_ne (fun e => by rw [e, h] at g; cases g)]; exact g, fun a o1 xs g => by rw [upd_ne (fun e => by rw [e, h] at g; cases g)]; exact g⟩
theorem sqT_tk {K : PySem.W.Frag} {H H' : Hp} {t : Addr} {xs : List V} (e : TK H H') (h : SqT K H t xs) : SqT K H' t xs := by
  rcases h with (h | ⟨o, h⟩) | h
  · exact .inl (.inl (e.1 _ _ h))
  · exact .inl (.inr ⟨o, e.2 _ _ _ h⟩)
  · exact .inr h
theorem Thg.At.tk {K : PySem.W.Frag} {H H' : Hp} {v : V} {x : Thg} (e : TK H H') (h : Thg.At K H v x) : Thg.At K H' v x := by
  obtain ⟨t, h1, h2⟩ := h
  exact ⟨t, h1, sqT_tk e h2⟩
theorem EntAt.tk {K : PySem.W.Frag} {H H' : Hp} {v : V} {q : Str × Thg} (s : TK H H') (h : EntAt K H v q) : EntAt K H' v q := by
  obtain ⟨e, u, h1, h2, h3⟩ := h
  exact ⟨e, u, h1, sqT_tk s h2, h3.tk s⟩
/-- where the loop stands -/
structure FilI (K : PySem.W.Frag) (H0 H : Hp) (L Ls T F : Addr) (l : List (Str × Thg)) (ms : List (Str × Key)) (ys : List Str) (i : Nat) : Prop where
  fr : ∀ b o, b ≠ T → b ≠ F → b ≠ L → b ≠ Ls → H0 b = some o → H b = some o
  tk : TK H0 H
  rows : ∃ vs, H L = some (.lst vs) ∧ Paired (EntAt K H) vs ((ys.take i).map fun p => (p, rowP l ms ys p))
  lst : ∃ ps, H Ls = some (.dK ps) ∧ ps.length ≤ i ∧ ∀ k, valV ps k = (firstM ms (ys.take i) k).map V.str
  th : ∃ ps, H T = some (.dK ps) ∧ TabR (Thg.At K H) ps ((ys.take i).map fun p => (p, thingP l p))
  fi : ∃ ps, H F = some (.dK ps) ∧ TabR (fun v z => v = .str z) ps (firstsP ms ys (ys.take i))
theorem put_keys_new {α : Type} {l : List (Str × α)} {z : Str} {x : α} (h : z ∉ l.map (·.1)) : putA l z x = l ++ [(z, x)] := put_new (look_none h)
theorem FilI.step {K : PySem.W.Frag} {H0 H' H2 : Hp} {L Ls T F E9 : Addr} {l : List (Str × Thg)} {ms : List (Str × Key)} {ys : List Str} {i : Nat} {z : Str} {v rowv : V} {vs : List V} {ps ls qs : List (Key × V)}
    (hz : ys[i]? = some z) (hzt : z ∉ ys.take i) (fr2 : ∀ b o, b ≠ T → b ≠ F → b ≠ L → b ≠ Ls → H0 b = some o → H2 b = some o) (tk0 : TK H0 H') (tk2 : TK H' H2)
    (gL : H2 L = some (.lst vs)) (pL : Paired (EntAt K H') vs ((ys.take i).map fun p => (p, rowP l ms ys p)))
    (gLs : H2 Ls = some (.dK ls)) (lls : ls.length ≤ i + 1) (pLs : ∀ k, valV ls k = (firstM ms (ys.take (i + 1)) k).map V.str)
    (gT : H2 T = some (.dK (putK ps (Sum.inr z) v))) (pT : TabR (Thg.At K H') ps ((ys.take i).map fun p => (p, thingP l p))) (hv : Thg.At K H' v (thingP l z))
    (gF : H2 F = some (.dK qs)) (pF : TabR (fun v z => v = .str z) qs (firstsP ms ys (ys.take (i + 1))))
    (hrow : Thg.At K H2 rowv (rowP l ms ys z)) (hE : H2 E9 = none) : FilI K H0 (upd (upd H2 E9 (.tup [.str z, rowv])) L (.lst (vs ++ [.ref E9]))) L Ls T F l ms ys (i + 1) := by
  have e9 := same_new (o := HO.tup [V.str z, rowv]) hE
  have nLE : L ≠ E9 := ne_of_none gL hE
  have nLLs : Ls ≠ L := fun e => by rw [e, gL] at gLs; cases gLs
  have nTL : T ≠ L := fun e => by rw [e, gL] at gT; cases gT
  have nFL : F ≠ L := fun e => by rw [e, gL] at gF; cases gF
  have tk3 : TK H2 (upd (upd H2 E9 (.tup [.str z, rowv])) L (.lst (vs ++ [.ref E9]))) := (tk_new hE).trans (tk_lst (e9 _ _ gL))
  have tk4 := tk2.trans tk3
  refine ⟨fun b o n1 n2 n3 n4 h => ?_, tk0.trans tk4, ⟨_, upd_same, ?_⟩, ⟨ls, ?_, lls, pLs⟩, ⟨putK ps (Sum.inr z) v, ?_, ?_⟩, ⟨qs, ?_, pF⟩⟩
  · rw [upd_ne n3]
    exact e9 _ _ (fr2 b o n1 n2 n3 n4 h)
  · rw [take_snoc hz, List.map_append]
    refine paired_snoc (Paired.mapP pL fun _ _ y => y.tk tk4) ⟨E9, rowv, rfl, SqT.of ?_, hrow.tk tk3⟩
    rw [upd_ne nLE.symm]
    exact upd_same
  · rw [upd_ne nLLs]
    exact e9 _ _ gLs
  · rw [upd_ne nTL]
    exact e9 _ _ gT
  · rw [take_snoc hz, List.map_append]
    have hk : z ∉ ((ys.take i).map fun p => (p, thingP l p)).map (·.1) := by
      rw [List.map_map]
      intro hm
      obtain ⟨a, ha, e⟩ := List.mem_map.mp hm
      exact hzt (e ▸ ha)
    rw [show ((ys.take i).map fun p => (p, thingP l p)) ++ [z].map (fun p => (p, thingP l p)) = putA ((ys.take i).map fun p => (p, thingP l p)) z (thingP l z) from (put_keys_new hk).symm]
    exact (pT.mono fun _ _ y => y.tk tk4).put (hv.tk tk4)
  · rw [upd_ne nFL]
    exact e9 _ _ gF
def fB (K : PySem.W.Frag) : TS := tDrop (tBM K "list" rAppend (tVar 3) (tCons (tTup (tCons (tVar 5) (tCons (tVar 6) tNil))) tNil))
def fA (K : PySem.W.Frag) : TS := tSeq (sDPut (tFld K (tVar 0) (Str.ofString "firsts")) (tVar 5) (tVar 7)) (tIfS (tTest (tOp rNe (tVar 7) (tVar 5))) (tAsg (tTup (tCons (tC (V.str (Str.ofString "link"))) (tCons (tVar 7) tNil))) (gName 6)) tNext)
section
variable {K : PySem.W.Frag} {D : Ends} {H : Hp} {x C dx R T F L Ls D0 M : Addr} {v5 v6 v7 : Option V}
theorem ok_fB {z : Str} {row : V} {vs : List V} (hL : H L = some (.lst vs)) (hz : vs.length ≤ 1000) (k : ∀ E9, H E9 = none → D.nx [some (.ref x), some (.ref D0), some (.ref M), some (.ref L), some (.ref Ls), some (.str z), some row, v7] (upd (upd H E9 (.tup [.str z, row])) L (.lst (vs ++ [.ref E9])))) :
    fB K D [some (.ref x), some (.ref D0), some (.ref M), some (.ref L), some (.ref Ls), some (.str z), some row, v7] H := by
  unfold fB
  walk_at "rd"
  rename_i E9 hE9
  have hL2 := (same_new (o := HO.tup [V.str z, row]) hE9) _ _ hL
  exact k E9 hE9
theorem ok_fA {z f : Str} {row : V} {qs : List (Key × V)} (hc : HsC K C) (hx : H x = some (.ins C dx (hsF R T F))) (hF : H F = some (.dK qs)) (hz : qs.length ≤ 1000)
    (k1 : f = z → D.nx [some (.ref x), some (.ref D0), some (.ref M), some (.ref L), some (.ref Ls), some (.str z), some row, some (.str f)] (upd H F (.dK (putK qs (Sum.inr z) (.str f)))))
    (k2 : f ≠ z → ∀ Lk, upd H F (.dK (putK qs (Sum.inr z) (.str f))) Lk = none → D.nx [some (.ref x), some (.ref D0), some (.ref M), some (.ref L), some (.ref Ls), some (.str z), some (.ref Lk), some (.str f)] (upd (upd H F (.dK (putK qs (Sum.inr z) (.str f)))) Lk (.tup [.str "link", .str f]))) :
    fA K D [some (.ref x), some (.ref D0), some (.ref M), some (.ref L), some (.ref Ls), some (.str z), some row, some (.str f)] H := by
  unfold fA
  walk_at "rd"
  refine r_fldE hx hc.cl hc.firsts rfl ?_
  walk_at "rd"
  refine ⟨F, _, rfl, DPut.k (k := Sum.inr z) hF (Nat.lt_of_le_of_lt hz (by decide)), ?_⟩
  walk_at "rd"
  rw [dec_strV]
  by_cases h : f = z
  · rw [decide_eq_true h]
    exact r_iteF (r_next (k1 h))
  · rw [decide_eq_false h]
    refine r_iteT ?_
    walk_at "rd"
    exact k2 h _ (by assumption)
end
section
variable {P : Program} {w : World} {K : PySem.W.Frag} {mg : Str → Option Value} {base : Heap}
def spFilled (K : PySem.W.Frag) (C : Addr) : Sp := fun vs H Q _ => ∃ (x dx R T F D M : Addr) (l : List (Str × Thg)) (ms : List (Str × Key)), vs = [.ref x, .ref D, .ref M] ∧ H x = some (.ins C dx (hsF R T F)) ∧ H T = some (.dK []) ∧ H F = some (.dK []) ∧ T ≠ F ∧ D ≠ T ∧ D ≠ F ∧ M ≠ T ∧ M ≠ F ∧
  ThR K H D l ∧ MkR H M ms ∧ l.length < 64 ∧ (l.map (·.1)).Nodup ∧
  ∀ ys H', ys.Perm (l.map (·.1)) → sortedS ys = true → (∀ b o, b ≠ x → b ≠ T → b ≠ F → H b = some o → H' b = some o) → HsTF K C H' x T F (hsOf l ms ys) → Q (.ref x) H'
theorem ok_filled {f C : Addr} {fd : FuncData} {k : Nat} (F : Fun K "filled" "filled" s_filled f fd) (hc : HsC K C) (m1 : mg "sorted" = none) (m2 : mg "tuple" = none) : FnOk P w K mg base CX0 (k + 2) f fd ["house", "things", "marks"] (spFilled K C) := by
  refine F.ok sc_filled (fun vs H Q E9 h => ?_) (fun cdv A outer s H vs Q E9 hr h => ?_)
  · obtain ⟨x, dx, R, T, F, D, M, l, ms, rfl, _⟩ := h
    rfl
  · obtain ⟨x, dx, R, T, F, D, M, l, ms, rfl, hx, hT, hF, nTF, nDT, nDF, nMT, nMF, ⟨ds, hD, tD⟩, ⟨ks, hM, tM⟩, hl, hnd, q⟩ := h
    have hu := hu_of hr
    have nd := sc_filled.nd
    have hcl := hc.cl
    refine ⟨_, (pss_cons (ps_set (i := 3) nd rfl (Or.inl rfl) (pe_lst pa_nil))
      (pss_cons (ps_set (i := 4) nd rfl (Or.inl rfl) pe_dnewK)
      (pss_cons (ps_for PassesOwn.never rfl (pi_list (pe_callB (call_sortedD rfl) (by rfl) (by assumption) (by decide +kernel) (pa_cons (pv 1) pa_nil))) (pg_name (i := 5) nd rfl (Or.inl rfl))
        (pss_cons (ps_dput hu (pe_fldN K (pv 0)) (pv 5) (pe_dget hu (pv 1) (pv 5) (fun _ _ => rfl)) rfl)
      (pss_cons (ps_set (i := 6) nd rfl (Or.inl rfl) (pe_dget hu (pv 1) (pv 5) (fun _ _ => rfl)))
      (pss_cons (ps_if (pt_cmp (pc_din hu (pv 5) (pv 2)))
        (pss_cons (ps_set (i := 7) nd rfl (Or.inl rfl) (pe_dsetd (pv 4) (pe_dget hu (pv 2) (pv 5) (fun _ _ => rfl)) (pv 5) ⟨rfl, rfl, rfl, rfl⟩))
      (pss_cons (ps_dput hu (pe_fldN K (pv 0)) (pv 5) (pv 7) rfl)
      (pss_one (ps_if (pt_cmpR op_ne (pv 7) (pv 5) (nomark _))
        (pss_one (ps_set (i := 6) nd rfl (Or.inl rfl) (pe_tup (pa_cons pe_str (pa_cons (pv 7) pa_nil)))))
        pss_nil))))
        pss_nil)
      (pss_one (ps_expr (pe_bm PySem.F.plainAttrs_list PySem.F.slot_list_append PySem.F.type_list_append mt_append (pv 3) (pa_cons (pe_tup (pa_cons (pv 5) (pa_cons (pv 6) pa_nil))) pa_nil))))))))
      (pss_cons (ps_fld (pv 0) (pe_tupleOf (by rfl) (by assumption) (pv 3)) rfl)
      (pss_one (ps_ret (pv 0))))))), ?_⟩
    walk_at "rd"
    rename_i L hL0 Ls hLs0
    have e1 := same_new (o := HO.lst []) hL0
    have e2 := same_new (o := HO.dK []) hLs0
    have E2 := e1.trans e2
    have hLs : H Ls = none := e1.free hLs0
    have nLLs : L ≠ Ls := ne_of_none upd_same hLs0
    have hD2 : Rd (upd (upd H L (.lst [])) Ls (.dK [])) D (.dK ds) := hD.elim (fun g => .inl (E2 _ _ g)) fun ⟨o, g⟩ => .inr ⟨o, E2 _ _ g⟩
    refine ⟨D, ds, l.map (·.1), rfl, hD2, tD.keys, by rw [List.length_map]; exact hl, fun ys S hpm hst hS => ?_⟩
    have e3 := same_new (o := HO.lst (ys.map V.str)) hS
    have E3 := E2.trans e3
    refine ⟨S, rfl, ⟨_, SqL.of upd_same⟩, ?_⟩
    have nTL : T ≠ L := ne_of_none hT hL0
    have nFL : F ≠ L := ne_of_none hF hL0
    have nTLs : T ≠ Ls := ne_of_none hT hLs
    have nFLs : F ≠ Ls := ne_of_none hF hLs
    have gS : upd (upd (upd H L (.lst [])) Ls (.dK [])) S (.lst (ys.map V.str)) S = some (.lst (ys.map V.str)) := upd_same
    have nST : S ≠ T := (ne_of_none (E2 _ _ hT) hS).symm
    have nSF : S ≠ F := (ne_of_none (E2 _ _ hF) hS).symm
    have nSL : S ≠ L := (ne_of_none (e2 _ _ (show upd H L (.lst []) L = _ from upd_same)) hS).symm
    have nSLs : S ≠ Ls := (ne_of_none (show upd (upd H L (.lst [])) Ls (.dK []) Ls = _ from upd_same) hS).symm
    refine for_it (walk_list (xs := ys.map V.str)) (fun i σ H' => ∃ v5 v6 v7, σ = [some (.ref x), some (.ref D), some (.ref M), some (.ref L), some (.ref Ls), v5, v6, v7] ∧ FilI K (upd (upd (upd H L (.lst [])) Ls (.dK [])) S (.lst (ys.map V.str))) H' L Ls T F l ms ys i) ?_ (fun i σ H' _ ⟨_, _, _, _, g⟩ => SqL.of (g.fr _ _ nST nSF nSL nSLs gS)) ?_ ?_
    · refine ⟨none, none, none, rfl, fun _ _ _ _ _ _ h => h, TK.refl _, ⟨[], ?_, .nil⟩, ⟨[], ?_, Nat.zero_le _, fun k => rfl⟩, ⟨[], E3 _ _ hT, .nil⟩, ⟨[], E3 _ _ hF, .nil⟩⟩
      · rw [upd_ne nSL.symm, upd_ne nLLs, upd_same]
      · rw [upd_ne nSLs.symm, upd_same]
    · rintro i v σ Hc H' hi ⟨v5, v6, v7, rfl, g⟩ ⟨rfl, hv⟩
      rw [List.getElem?_map] at hv
      obtain ⟨z, hz, rfl⟩ : ∃ x, ys[i]? = some x ∧ V.str x = v := by
        cases e : ys[i]? with
        | none => rw [e] at hv; cases hv
        | some x => rw [e] at hv; exact ⟨x, rfl, Option.some.inj hv⟩
      have hi' : i < ys.length := by rw [List.length_map] at hi; exact hi
      have yl : ys.length < 64 := by rw [hpm.length_eq, List.length_map]; exact hl
      have hzm : z ∈ l.map (·.1) := hpm.mem_iff.mp (List.mem_of_getElem? hz)
      have ynd : ys.Nodup := hpm.nodup_iff.mpr hnd
      have hzt : z ∉ ys.take i := by
        intro hm
        have e : ys = ys.take i ++ z :: ys.drop (i + 1) := by
          rw [← (List.getElem?_eq_some_iff.mp hz).2, List.getElem_cons_drop, List.take_append_drop]
        rw [e, List.nodup_append] at ynd
        exact ynd.2.2 z hm z List.mem_cons_self rfl
      obtain ⟨⟨z', y⟩, hm, hzz⟩ := List.mem_map.mp hzm
      have hzz : z' = z := hzz
      subst hzz
      have ly := look_nd hnd hm
      rcases tD.get (z := z') with ⟨_, h2⟩ | ⟨v, y', d1, h2, d3⟩
      · rw [ly] at h2; cases h2
      rw [ly] at h2
      cases h2
      have xL : x ≠ L := ne_of_none hx hL0
      have xLs : x ≠ Ls := ne_of_none hx hLs
      have xT : x ≠ T := fun e => by rw [e, hT] at hx; cases hx
      have xF : x ≠ F := fun e => by rw [e, hF] at hx; cases hx
      have gx := g.fr _ _ xT xF xL xLs (E3 _ _ hx)
      have nDL : D ≠ L := by rcases hD with h | ⟨o, h⟩ <;> exact ne_of_none h hL0
      have nDLs : D ≠ Ls := by rcases hD with h | ⟨o, h⟩ <;> exact ne_of_none h hLs
      have nML : M ≠ L := by rcases hM with h | ⟨o, h⟩ <;> exact ne_of_none h hL0
      have nMLs : M ≠ Ls := by rcases hM with h | ⟨o, h⟩ <;> exact ne_of_none h hLs
      have gD : Rd H' D (.dK ds) := hD.elim (fun h => .inl (g.fr _ _ nDT nDF nDL nDLs (E3 _ _ h))) fun ⟨o, h⟩ => .inr ⟨o, g.fr _ _ nDT nDF nDL nDLs (E3 _ _ h)⟩
      have gM : Rd H' M (.dK ks) := hM.elim (fun h => .inl (g.fr _ _ nMT nMF nML nMLs (E3 _ _ h))) fun ⟨o, h⟩ => .inr ⟨o, g.fr _ _ nMT nMF nML nMLs (E3 _ _ h)⟩
      obtain ⟨vs, gL, pL⟩ := g.rows
      obtain ⟨ps, gT, pT⟩ := g.th
      obtain ⟨qs, gF, pF⟩ := g.fi
      obtain ⟨ls, gLs, lls, pLs⟩ := g.lst
      have hv' : Thg.At K H' v y := d3.tk ((Same.tk E3).trans g.tk)
      have psl : ps.length ≤ 64 := by rw [pT.len, List.length_map, List.length_take]; omega
      have qsl : qs.length ≤ 64 := by
        have := firstsP_len (ms := ms) (ys := ys) (a := ys.take i)
        rw [pF.len]
        rw [List.length_take] at this
        omega
      have vsl : vs.length ≤ 64 := by rw [Paired.length pL, List.length_map, List.length_take]; omega
      walk_at "rd"
      refine ⟨D, v, rfl, .inl ⟨ds, Sum.inr z', gD, rfl, d1.symm⟩, ?_⟩
      walk_at "rd"
      refine r_fldE gx hc.cl hc.things rfl ?_
      walk_at "rd"
      refine ⟨T, _, rfl, DPut.k (k := Sum.inr z') gT (Nat.lt_of_le_of_lt psl (by decide)), ?_⟩
      walk_at "rd"
      have H1 : ∃ H1, H1 = upd H' T (.dK (putK ps (Sum.inr z') v)) := ⟨_, rfl⟩
      obtain ⟨H1, eH1⟩ := H1
      rw [← eH1]
      have k1 : ∀ b o, b ≠ T → H' b = some o → H1 b = some o := fun b o n h => by rw [eH1, upd_ne n]; exact h
      have tk1 : TK H' H1 := by rw [eH1]; exact tk_dK gT
      have gT1 : H1 T = some (.dK (putK ps (Sum.inr z') v)) := by rw [eH1]; exact upd_same
      have gD1 : Rd H1 D (.dK ds) := gD.elim (fun h => .inl (k1 _ _ nDT h)) fun ⟨o, h⟩ => .inr ⟨o, k1 _ _ nDT h⟩
      have gM1 : Rd H1 M (.dK ks) := gM.elim (fun h => .inl (k1 _ _ nMT h)) fun ⟨o, h⟩ => .inr ⟨o, k1 _ _ nMT h⟩
      have gx1 := k1 _ _ xT gx
      have gL1 := k1 _ _ nTL.symm gL
      have gLs1 := k1 _ _ nTLs.symm gLs
      have gF1 := k1 _ _ nTF.symm gF
      have fr1 : ∀ b o, b ≠ T → b ≠ F → b ≠ L → b ≠ Ls → upd (upd (upd H L (.lst [])) Ls (.dK [])) S (.lst (ys.map V.str)) b = some o → H1 b = some o := fun b o n1 n2 n3 n4 h => k1 _ _ n1 (g.fr b o n1 n2 n3 n4 h)
      have hth : thingP l z' = y := by unfold thingP; rw [ly]; rfl
      have hvT : Thg.At K H' v (thingP l z') := by rw [hth]; exact hv'
      refine ⟨D, v, rfl, .inl ⟨ds, Sum.inr z', gD1, rfl, d1.symm⟩, ?_⟩
      refine (show tSeq (tIfS (tB (tDIn (tVar 5) (tVar 2))) (tSeq (tAsg (tDSetd (tVar 4) (tDGet (tVar 2) (tVar 5)) (tVar 5)) (gName 7)) (fA K)) tNext) (fB K) _ [some (.ref x), some (.ref D), some (.ref M), some (.ref L), some (.ref Ls), some (.str z'), some v, v7] H1 from ?_)
      refine r_seq ?_
      refine r_if ?_
      walk_at "rd"
      refine ⟨M, valV ks (Sum.inr z'), rfl, .inl ⟨ks, Sum.inr z', gM1, rfl, rfl⟩, ?_⟩
      refine ⟨_, rfl, ?_⟩
      have tks : ys.take (i + 1) = ys.take i ++ [z'] := take_snoc hz
      have zF : z' ∉ (firstsP ms ys (ys.take i)).map (·.1) := fun h => hzt (firstsP_keys h)
      rcases tM.get (z := z') with ⟨m1', m2'⟩ | ⟨vk, kk, m1', m2', rfl⟩
      · rw [m1', if_neg (by decide)]
        refine r_next ?_
        refine (show fB K _ _ _ from ok_fB gL1 (by omega) fun E9 hE9 => ?_)
        refine ⟨_, _, _, rfl, FilI.step hz hzt fr1 g.tk tk1 gL1 pL gLs1 (by omega) (fun k => ?_) gT1 pT hvT gF1 ?_ ?_ hE9⟩
        · rw [pLs, tks, firstM_app, firstM_one, m2', if_neg (by simp), Option.or_none]
        · rw [tks, firstsP_app, firstsP_one, m2', if_neg (by simp), List.append_nil]
          exact pF
        · have fo : firstOf ms ys z' = z' := by unfold firstOf; rw [m2']; rfl
          unfold rowP
          rw [if_pos fo]
          exact hvT.tk tk1
      · rw [m1', if_pos (show (some (kV kk)).isSome = true from rfl)]
        refine r_seq ?_
        refine r_asg ?_
        refine r_dsetd ?_
        walk_at "rd"
        refine ⟨Ls, rfl, .inl ⟨ls, .inl gLs1⟩, ?_⟩
        walk_at "rd"
        refine ⟨M, kV kk, rfl, .inl ⟨ks, Sum.inr z', gM1, rfl, m1'.symm⟩, ?_⟩
        walk_at "rd"
        have fone : ∀ k2, firstM ms (ys.take (i + 1)) k2 = (firstM ms (ys.take i) k2).or (if kk = k2 then some z' else none) := fun k2 => by
          rw [tks, firstM_app, firstM_one, m2']
          congr 1
          by_cases h : kk = k2
          · rw [if_pos (by rw [h]), if_pos h]
          · rw [if_neg (fun e => h (Option.some.inj e)), if_neg h]
        have fsP : ∀ f, firstOf ms ys z' = f → TabR (fun v z => v = .str z) (putK qs (Sum.inr z') (.str f)) (firstsP ms ys (ys.take (i + 1))) := fun f fo => by
          rw [tks, firstsP_app, firstsP_one, m2', if_pos (show (some kk).isSome = true from rfl), fo, ← put_keys_new zF]
          exact pF.put rfl
        refine ⟨ls, kk, gLs1, rfl, Nat.lt_of_le_of_lt (by omega : _ ≤ 64) (by decide), fun v2 hv2 => ?_, fun hn => ?_⟩
        · rw [pLs] at hv2
          obtain ⟨f, hf, rfl⟩ := Option.map_eq_some_iff.mp hv2
          have fo : firstOf ms ys z' = f := by
            unfold firstOf
            rw [m2']
            show (firstM ms ys kk).getD z' = f
            rw [firstM_pre hf]
            rfl
          have tk2 : TK H' (upd H1 F (.dK (putK qs (Sum.inr z') (.str f)))) := tk1.trans (tk_dK gF1)
          have nLF : L ≠ F := nFL.symm
          have fr2 : ∀ b o, b ≠ T → b ≠ F → b ≠ L → b ≠ Ls → upd (upd (upd H L (.lst [])) Ls (.dK [])) S (.lst (ys.map V.str)) b = some o → upd H1 F (.dK (putK qs (Sum.inr z') (.str f))) b = some o := fun b o n1 n2 n3 n4 h => by rw [upd_ne n2]; exact fr1 b o n1 n2 n3 n4 h
          have pLs2 : ∀ k, valV ls k = (firstM ms (ys.take (i + 1)) k).map V.str := fun k => by
            rw [pLs, fone]
            by_cases h : kk = k
            · subst h
              rw [hf]
              rfl
            · rw [if_neg h, Option.or_none]
          refine r_gname ?_
          refine (show fA K _ _ _ from ok_fA hc gx1 gF1 (by omega) (fun hfz => ?_) (fun hfz Lk hLk => ?_))
          · refine (show fB K _ _ _ from ok_fB (by rw [upd_ne nLF]; exact gL1) (by omega) fun E9 hE9 => ?_)
            refine ⟨_, _, _, rfl, FilI.step hz hzt fr2 g.tk tk2 (by rw [upd_ne nLF]; exact gL1) pL (by rw [upd_ne nFLs.symm]; exact gLs1) (by omega) pLs2 (by rw [upd_ne nTF]; exact gT1) pT hvT upd_same (fsP f fo) ?_ hE9⟩
            unfold rowP
            rw [if_pos (by rw [fo, hfz])]
            exact hvT.tk tk2
          · have eLk := same_new (o := HO.tup [V.str "link", V.str f]) hLk
            refine (show fB K _ _ _ from ok_fB (eLk _ _ (by rw [upd_ne nLF]; exact gL1)) (by omega) fun E9 hE9 => ?_)
            refine ⟨_, _, _, rfl, FilI.step hz hzt (fun b o n1 n2 n3 n4 h => eLk _ _ (fr2 b o n1 n2 n3 n4 h)) g.tk (tk2.trans (Same.tk eLk)) (eLk _ _ (by rw [upd_ne nLF]; exact gL1)) pL (eLk _ _ (by rw [upd_ne nFLs.symm]; exact gLs1)) (by omega) pLs2 (eLk _ _ (by rw [upd_ne nTF]; exact gT1)) pT hvT (eLk _ _ upd_same) (fsP f fo) ?_ hE9⟩
            unfold rowP
            rw [if_neg (by rw [fo]; exact hfz), fo]
            exact ⟨Lk, rfl, SqT.of upd_same⟩
        · rw [pLs] at hn
          have hf : firstM ms (ys.take i) kk = none := Option.map_eq_none_iff.mp hn
          have fo : firstOf ms ys z' = z' := by
            unfold firstOf
            rw [m2']
            show (firstM ms ys kk).getD z' = z'
            rw [firstM_pre (j := i + 1) (f := z') (by rw [fone, hf, if_pos rfl]; rfl)]
            rfl
          have gF2 : upd H1 Ls (.dK (putK ls kk (.str z'))) F = some (.dK qs) := by rw [upd_ne nFLs]; exact gF1
          have nLF : L ≠ F := nFL.symm
          have tk2 : TK H' (upd (upd H1 Ls (.dK (putK ls kk (.str z')))) F (.dK (putK qs (Sum.inr z') (.str z')))) := (tk1.trans (tk_dK gLs1)).trans (tk_dK gF2)
          refine r_gname ?_
          refine (show fA K _ _ _ from ok_fA hc (by rw [upd_ne xLs]; exact gx1) gF2 (by omega) (fun _ => ?_) (fun hfz Lk hLk => absurd rfl hfz))
          have gL3 : upd (upd H1 Ls (.dK (putK ls kk (.str z')))) F (.dK (putK qs (Sum.inr z') (.str z'))) L = some (.lst vs) := by rw [upd_ne nLF, upd_ne nLLs]; exact gL1
          refine (show fB K _ _ _ from ok_fB gL3 (by omega) fun E9 hE9 => ?_)
          refine ⟨_, _, _, rfl, FilI.step hz hzt (fun b o n1 n2 n3 n4 h => ?_) g.tk tk2 gL3 pL (by rw [upd_ne nFLs.symm]; exact upd_same) (Nat.le_trans (length_putK _ _ _) (by omega)) (fun k => ?_) (by rw [upd_ne nTF, upd_ne nTLs]; exact gT1) pT hvT upd_same (fsP z' fo) ?_ hE9⟩
          · rw [upd_ne n2, upd_ne n4]
            exact fr1 b o n1 n2 n3 n4 h
          · rw [valV_put, fone, pLs]
            by_cases h : k = kk
            · subst h
              rw [if_pos rfl, if_pos rfl, hf]
              rfl
            · rw [if_neg h, if_neg (Ne.symm h), Option.or_none]
          · unfold rowP
            rw [if_pos fo]
            exact hvT.tk tk2
    · rintro σ Hc ⟨v5, v6, v7, rfl, g⟩
      rw [List.length_map] at g
      obtain ⟨vs, gL, pL⟩ := g.rows
      obtain ⟨ps, gT, pT⟩ := g.th
      obtain ⟨qs, gF, pF⟩ := g.fi
      rw [List.take_length] at pL pT pF
      have xL : x ≠ L := ne_of_none hx hL0
      have xLs : x ≠ Ls := ne_of_none hx hLs
      have xT : x ≠ T := fun e => by rw [e, hT] at hx; cases hx
      have xF : x ≠ F := fun e => by rw [e, hF] at hx; cases hx
      have gx := g.fr _ _ xT xF xL xLs (E3 _ _ hx)
      unfold tThen
      walk_at "rd"
      refine .inl ⟨L, vs, rfl, SqL.of gL, fun R' hR' => ?_⟩
      have eR := same_new (o := HO.tup vs) hR'
      have xR : x ≠ R' := ne_of_none gx hR'
      have TR : T ≠ R' := ne_of_none gT hR'
      have FR : F ≠ R' := ne_of_none gF hR'
      have gx2 := eR _ _ gx
      walk_at "rd"
      refine ⟨x, C, dx, _, rfl, gx2, hc.cl, hc.rows, (show 3 < 1000 by decide), ?_⟩
      rw [hsF_put]
      walk_at "rd"
      have tk9 : TK Hc (upd (upd Hc R' (.tup vs)) x (.ins C dx (hsF R' T F))) := (tk_new hR').trans ⟨fun a xs h => by rw [upd_ne (fun e => by rw [e, gx2] at h; cases h)]; exact h, fun a o xs h => by rw [upd_ne (fun e => by rw [e, gx2] at h; cases h)]; exact h⟩
      refine q ys (upd (upd Hc R' (.tup vs)) x (.ins C dx (hsF R' T F))) hpm hst (fun b o nx n1 n2 hb => ?_) ⟨dx, R', vs, ps, qs, upd_same, ?_, Paired.mapP pL fun _ _ y => y.tk tk9, ?_, pT.mono fun _ _ y => y.tk tk9, ?_, pF, nTF⟩
      · have hc9 := g.fr _ _ n1 n2 (ne_of_none hb hL0) (ne_of_none hb hLs) (E3 _ _ hb)
        rw [upd_ne nx]
        exact eR _ _ hc9
      · rw [upd_ne xR.symm]
        exact upd_same
      · rw [upd_ne xT.symm]
        exact eR _ _ gT
      · rw [upd_ne xF.symm]
        exact eR _ _ gF
end
/-! ### House.of -/
theorem ok_newHs {C : Addr} {σ : L2.St} {H : Hp} {Q : VK} (k : ∀ x dx R T F H', H x = none → H T = none → H F = none → T ≠ F → Same H H' → H' x = some (.ins C dx (hsF R T F)) → H' R = some (.tup []) → H' T = some (.dK []) → H' F = some (.dK []) → Q (.ref x) H') : tMake C (spHInit C) [] E0 tNil σ H Q := by
  refine r_make ?_
  intro x dx hx hdx ne
  have up : ∀ y, upd (upd H dx (HO.own x)) x (HO.ins C dx []) y = none → H y = none := fun y hy => by
    have n1 : y ≠ x := fun e => by rw [e, upd_same] at hy; cases hy
    rw [upd_ne n1] at hy
    have n2 : y ≠ dx := fun e => by rw [e, upd_same] at hy; cases hy
    rw [upd_ne n2] at hy
    exact hy
  refine ⟨x, dx, rfl, upd_same, fun R T F H2 hR hT hF nTF fr gx gR gT gF => ⟨rfl, ?_⟩⟩
  exact k x dx R T F H2 hx (up _ hT) (up _ hF) nTF (fun b o eo => fr _ _ (ne_of_none eo hx) (by
    rw [upd_ne (ne_of_none eo hx), upd_ne (ne_of_none eo hdx)]
    exact eo)) gx gR gT gF
abbrev s_Tree___init__ : Stmt := inClass (topS 57) 0
abbrev N_Tree___init__ : List Str := ["self", "house", "path"]
theorem sc_Tree___init__ : FnScope N_Tree___init__ ["self", "house"] (defScope s_Tree___init__) := ⟨rfl, rfl, rfl, by decide +kernel, rfl, by decide +kernel, by decide +kernel⟩
/-! ### trees -/
structure TrC (K : PySem.W.Frag) (C : Addr) : Prop where
  cl : Cls K C
  things : NoAttr K C "things"
  marks : NoAttr K C "marks"
  many : NoAttr K C "many"
def trF (D M : Addr) (n : Int) : List (Str × V) := putF "many" (.int n) (putF "marks" (.ref M) (putF "things" (.ref D) []))
structure Trd where
  things : List (Str × Thg)
  marks : List (Str × Key)
  many : Int
structure TrIn (K : PySem.W.Frag) (C : Addr) (H : Hp) (x dx D M : Addr) (ps qs : List (Key × V)) (t : Trd) : Prop where
  ob : H x = some (.ins C dx (trF D M t.many))
  d : H D = some (.dK ps)
  pd : TabR (Thg.At K H) ps t.things
  m : H M = some (.dK qs)
  pm : TabR (fun v k => v = kV k) qs t.marks
  ne : D ≠ M
def TrAt (K : PySem.W.Frag) (C : Addr) (H : Hp) (x : Addr) (t : Trd) : Prop := ∃ dx D M ps qs, TrIn K C H x dx D M ps qs t
theorem valV_nd {k : Key} {v : V} : ∀ {ps : List (Key × V)}, (ps.map (·.1)).Nodup → (k, v) ∈ ps → valV ps k = some v
  | [], _, h => nomatch h
  | p :: ps, nd, h => by
    rw [List.map_cons, List.nodup_cons] at nd
    rcases List.mem_cons.mp h with e | h
    · subst e
      exact valV_pos rfl
    · rw [valV_neg (fun e => nd.1 (by rw [e]; exact List.mem_map.mpr ⟨_, h, rfl⟩)), valV_nd nd.2 h]
theorem valV_no {k : Key} : ∀ {ps : List (Key × V)}, k ∉ ps.map (·.1) → valV ps k = none
  | [], _ => rfl
  | p :: ps, h => by
    rw [List.map_cons, List.mem_cons, not_or] at h
    rw [valV_neg (Ne.symm h.1), valV_no h.2]
theorem putK_take {ps : List (Key × V)} {i : Nat} {k : Key} {v : V} (nd : (ps.map (·.1)).Nodup) (h : ps[i]? = some (k, v)) : putK (ps.take i) k v = ps.take (i + 1) := by
  rw [take_snoc h]
  refine putK_new v (valV_no fun hm => ?_)
  have e : ps = ps.take i ++ (k, v) :: ps.drop (i + 1) := by
    rw [← (List.getElem?_eq_some_iff.mp h).2, List.getElem_cons_drop, List.take_append_drop]
  rw [e, List.map_append, List.nodup_append] at nd
  exact nd.2.2 k hm k (by simp) rfl
theorem TabR.nd {α : Type} {R : V → α → Prop} {ps : List (Key × V)} {l : List (Str × α)} (h : TabR R ps l) (nd : (l.map (·.1)).Nodup) : (ps.map (·.1)).Nodup := by
  rw [h.keys]
  exact List.Pairwise.map Sum.inr (fun a b h e => h (Sum.inr.inj e)) nd
theorem tabR_map : ∀ {ps : List (Key × V)} {l : List (Str × Str)}, TabR (fun v z => v = .str z) ps l → TabR (fun v k => v = kV k) ps (l.map fun q => (q.1, (Sum.inr q.2 : Key)))
  | [], [], .nil => .nil
  | p :: ps, q :: l, .cons h r => .cons ⟨h.1, h.2⟩ (tabR_map r)
def tCp (K : PySem.W.Frag) (f : Str) : TE := tLockE (tDc (iKeys (tFld K (tVar 1) f)) (gName 2) tYes (tVar 2) (tDGet (tFld K (tVar 1) f) (tVar 2)) (List.map (fun x => x.snd) [(Str.ofString "path", 2)]))
/-- a copy of a dict of the house -/
theorem ok_cp {K : PySem.W.Frag} {H : Hp} {Q : VK} {x : V} {v2 : Option V} {y dy CH T : Addr} {fs : List (Str × V)} {f : Str} {ps : List (Key × V)} (hy : H y = some (.ins CH dy fs)) (hc : Cls K CH) (hn : NoAttr K CH f) (hf : fs.lookup f = some (.ref T)) (hT : H T = some (.dK ps)) (nd : (ps.map (·.1)).Nodup) (hl : ps.length ≤ 1000)
    (k : ∀ D H', H D = none → Same H H' → H' D = some (.dK ps) → Q (.ref D) H') : tCp K f [some x, some (.ref y), v2] H Q := by
  have nyT : y ≠ T := fun e => by rw [e, hT] at hy; cases hy
  unfold tCp tLockE
  refine ⟨T, .dK ps, hT, True.intro, fun od => ?_⟩
  have gl : upd H T (.frz od (.dK ps)) T = some (.frz od (.dK ps)) := upd_same
  have gy : upd H T (.frz od (.dK ps)) y = some (.ins CH dy fs) := by rw [upd_ne nyT]; exact hy
  unfold tDc iKeys
  walk_at "rd"
  refine r_fldE gy hc hn hf ?_
  refine ⟨T, od, rfl, .inl ⟨ps, gl, ?_⟩⟩
  intro D hD
  refine dc_it walk_keys (fun i H' => Same (upd H T (.frz od (.dK ps))) H' ∧ H' D = some (.dK (ps.take i))) ⟨same_new hD, upd_same⟩ (fun i H' _ ⟨e, _⟩ => e _ _ gl) ?_ ?_
  · rintro i v Hc H' hi ⟨e, hb'⟩ ⟨rfl, kk, v9, hv, rfl⟩
    walk_at "rd"
    refine ⟨rfl, ?_⟩
    unfold tYes
    dsimp only
    rw [if_pos rfl]
    walk_at "rd"
    refine r_fldE (e _ _ gy) hc hn hf ?_
    walk_at "rd"
    refine ⟨T, v9, rfl, .inl ⟨ps, kk, .inr ⟨od, e _ _ gl⟩, rfl, (valV_nd nd (List.mem_of_getElem? hv)).symm⟩, ?_⟩
    refine ⟨_, kk, rfl, hb', ?_, fun b o eo => by rw [upd_ne (ne_of_none eo hD)]; exact e _ _ eo, ?_⟩
    · rw [List.length_take]
      exact Nat.lt_of_le_of_lt (by omega : _ ≤ 1000) (by decide)
    · rw [upd_same, putK_take nd hv]
  · rintro H3 ⟨e, hb'⟩
    rw [List.take_length] at hb'
    refine ⟨e _ _ gl, ?_⟩
    have nDT : D ≠ T := fun h => by rw [h, gl] at hD; cases hD
    have hDn : H D = none := by rw [upd_ne nDT] at hD; exact hD
    refine k D _ hDn (fun b o h => ?_) (by rw [upd_ne nDT]; exact hb')
    by_cases n : b = T
    · subst n
      rw [hT] at h
      cases h
      exact upd_same
    · rw [upd_ne n]
      exact e _ _ (by rw [upd_ne n]; exact h)
section
variable {P : Program} {w : World} {K : PySem.W.Frag} {mg : Str → Option Value} {base : Heap}
def spTInit (K : PySem.W.Frag) (C CH : Addr) : Sp := fun vs H Q _ => ∃ (x dx y : Addr) (h : Hs), vs = [.ref x, .ref y] ∧ H x = some (.ins C dx []) ∧ HsAt K CH H y h ∧ (h.things.map (·.1)).Nodup ∧ (h.firsts.map (·.1)).Nodup ∧ h.things.length ≤ 1000 ∧ h.firsts.length ≤ 1000 ∧
  ∀ D M ps qs H', H D = none → H M = none → Frame x H H' → TrIn K C H' x dx D M ps qs ⟨h.things, h.firsts.map fun q => (q.1, Sum.inr q.2), 0⟩ → Q .non H'
theorem ok_tinit {f C CH : Addr} {fd : FuncData} {k : Nat} (F : Fun K "__init__" "Tree.__init__" s_Tree___init__ f fd) (hc : TrC K C) (hh : HsC K CH) : FnOk P w K mg base CX0 (k + 2) f fd ["self", "house"] (spTInit K C CH) := by
  refine F.ok sc_Tree___init__ (fun vs H Q E9 h => ?_) (fun cdv A outer s H vs Q E9 hr h => ?_)
  · obtain ⟨x, dx, y, h, rfl, _⟩ := h
    rfl
  · obtain ⟨x, dx, y, h, rfl, hx, ⟨dy, R, T, F, vs, ps, qs, g⟩, nd1, nd2, l1, l2, q⟩ := h
    have hu := hu_of hr
    have nd := sc_Tree___init__.nd
    have hcl := hc.cl
    have a1 := hc.things
    have a2 := hc.marks
    have a3 := hc.many
    refine ⟨_, (pss_cons (ps_fld (pv 0) (pe_lock (pe_dc (own := [("path", 2)]) (g := (gName 2)) (tt := tYes) rfl nd (pi_keys (pe_fldN K (pv 1))) (blkOk_by (N := N_Tree___init__) (sc := defScope s_Tree___init__) (by decide +kernel)) (fun _ _ _ _ _ => (pg_name (i := 2) nd rfl (Or.inl rfl))) (fun _ _ _ _ _ => pts_nil) (fun _ _ _ _ _ => (pv 2)) (fun _ _ _ _ _ => (pe_dget hu (pe_fldN K (pv 1)) (pv 2) (fun _ _ => rfl))))) rfl)
      (pss_cons (ps_fld (pv 0) (pe_lock (pe_dc (own := [("path", 2)]) (g := (gName 2)) (tt := tYes) rfl nd (pi_keys (pe_fldN K (pv 1))) (blkOk_by (N := N_Tree___init__) (sc := defScope s_Tree___init__) (by decide +kernel)) (fun _ _ _ _ _ => (pg_name (i := 2) nd rfl (Or.inl rfl))) (fun _ _ _ _ _ => pts_nil) (fun _ _ _ _ _ => (pv 2)) (fun _ _ _ _ _ => (pe_dget hu (pe_fldN K (pv 1)) (pv 2) (fun _ _ => rfl))))) rfl)
      (pss_one (ps_fld (pv 0) pe_int rfl)))), ?_⟩
    have nyx : y ≠ x := fun e => by
      have := g.ob
      rw [e, hx] at this
      cases this
    have hlt : ps.length ≤ 1000 := by rw [g.pt.len]; exact l1
    have hlf : qs.length ≤ 1000 := by rw [g.pf.len]; exact l2
    walk_at "rd"
    refine (show tCp K (Str.ofString "things") _ _ _ from ok_cp g.ob hh.cl hh.things rfl g.t (g.pt.nd nd1) hlt fun D H1 hD e1 gD => ?_)
    have gx1 := e1 _ _ hx
    walk_at "rd"
    have e1' : ∀ b o, b ≠ x → H b = some o → upd H1 x (.ins C dx (putF (Str.ofString "things") (.ref D) [])) b = some o := fun b o n h => by rw [upd_ne n]; exact e1 _ _ h
    have nFx : F ≠ x := fun e => by have := g.f; rw [e, hx] at this; cases this
    have nDx : D ≠ x := (ne_of_none hx hD).symm
    refine (show tCp K (Str.ofString "firsts") _ _ _ from ok_cp (e1' _ _ nyx g.ob) hh.cl hh.firsts rfl (e1' _ _ nFx g.f) (g.pf.nd nd2) hlf fun M H2 hM e2 gM => ?_)
    have gx2 := e2 _ _ (show upd H1 x (.ins C dx (putF (Str.ofString "things") (.ref D) [])) x = _ from upd_same)
    have gD2 := e2 _ _ (show upd H1 x (.ins C dx (putF (Str.ofString "things") (.ref D) [])) D = some (.dK ps) by rw [upd_ne nDx]; exact gD)
    have nMx : M ≠ x := (ne_of_none (show upd H1 x (.ins C dx (putF (Str.ofString "things") (.ref D) [])) x = _ from upd_same) hM).symm
    walk_at "rd"
    have nDM : D ≠ M := ne_of_none (show upd H1 x (.ins C dx (putF (Str.ofString "things") (.ref D) [])) D = some (.dK ps) by rw [upd_ne nDx]; exact gD) hM
    have tkx : TK H2 (upd (upd H2 x (.ins C dx (putF (Str.ofString "marks") (.ref M) (putF (Str.ofString "things") (.ref D) [])))) x (.ins C dx (trF D M 0))) :=
      ⟨fun a xs h => by rw [upd_ne (fun e => by rw [e, gx2] at h; cases h), upd_ne (fun e => by rw [e, gx2] at h; cases h)]; exact h, fun a o xs h => by rw [upd_ne (fun e => by rw [e, gx2] at h; cases h), upd_ne (fun e => by rw [e, gx2] at h; cases h)]; exact h⟩
    have tk1 : TK H (upd H1 x (.ins C dx (putF (Str.ofString "things") (.ref D) []))) :=
      (Same.tk e1).trans ⟨fun a xs h => by rw [upd_ne (fun e => by rw [e, gx1] at h; cases h)]; exact h, fun a o xs h => by rw [upd_ne (fun e => by rw [e, gx1] at h; cases h)]; exact h⟩
    have tkA := (tk1.trans (Same.tk e2)).trans tkx
    have hMn : H M = none := by
      cases g9 : H M with
      | none => rfl
      | some o => rw [e1' _ _ nMx g9] at hM; cases hM
    refine q D M ps qs (upd (upd H2 x (.ins C dx (putF (Str.ofString "marks") (.ref M) (putF (Str.ofString "things") (.ref D) [])))) x (.ins C dx (trF D M 0))) hD hMn (fun b o n h => ?_) ⟨upd_same, ?_, g.pt.mono fun _ _ y => y.tk tkA, ?_, ?_, nDM⟩
    · rw [upd_ne n, upd_ne n]
      exact e2 _ _ (e1' _ _ n h)
    · rw [upd_ne nDx, upd_ne nDx]
      exact gD2
    · rw [upd_ne nMx, upd_ne nMx]
      exact gM
    · exact tabR_map g.pf
end
abbrev s_Tree_house : Stmt := inClass (topS 57) 1
abbrev N_Tree_house : List Str := ["self"]
theorem sc_Tree_house : FnScope N_Tree_house ["self"] (defScope s_Tree_house) := ⟨rfl, rfl, rfl, by decide +kernel, rfl, by decide +kernel, by decide +kernel⟩
/-! ### what a tree answers -/
section
variable {P : Program} {w : World} {K : PySem.W.Frag} {mg : Str → Option Value} {base : Heap}
def spTHouse (K : PySem.W.Frag) (C CH : Addr) : Sp := fun vs H Q _ => ∃ (x : Addr) (t : Trd), vs = [.ref x] ∧ TrAt K C H x t ∧ t.things.length < 64 ∧ (t.things.map (·.1)).Nodup ∧
  ∀ ys y H', ys.Perm (t.things.map (·.1)) → sortedS ys = true → H y = none → Same H H' → HsNw K CH H H' y (hsOf t.things t.marks ys) → Q (.ref y) H'
theorem ok_thouse {f C CH : Addr} {fd : FuncData} {k : Nat} (F : Fun K "house" "Tree.house" s_Tree_house f fd) (hc : TrC K C) (c_filled : CalT P w K mg base 2 "filled" (spFilled K CH)) (mk0_House : Mk0T P w K mg base 2 "House" CH (spHInit CH)) : FnOk P w K mg base CX0 (k + 4) f fd ["self"] (spTHouse K C CH) := by
  refine F.ok sc_Tree_house (fun vs H Q E9 h => ?_) (fun cdv A outer s H vs Q E9 hr h => ?_)
  · obtain ⟨x, t, rfl, _⟩ := h
    rfl
  · obtain ⟨x, t, rfl, ⟨dx, D, M, ps, qs, g⟩, hl, hnd, q⟩ := h
    have hu := hu_of hr
    have nd := sc_Tree_house.nd
    refine ⟨_, (pss_one (ps_ret (pe_cc c_filled hr (by omega) (by rfl) (pa_cons (pe_mk0 mk0_House hr (by omega) (by rfl)) (pa_cons (pe_fldN K (pv 0)) (pa_cons (pe_fldN K (pv 0)) pa_nil)))))), ?_⟩
    walk_at "rd"
    refine ok_newHs fun y dy R T F H6 hy hT hF nTF e6 gx gR gT6 gF6 => ?_
    walk_at "rd"
    refine r_fldE (e6 _ _ g.ob) hc.cl hc.things rfl ?_
    walk_at "rd"
    refine r_fldE (e6 _ _ g.ob) hc.cl hc.marks rfl ?_
    walk_at "rd"
    refine ⟨y, dy, R, T, F, D, M, t.things, t.marks, rfl, gx, gT6, gF6, nTF, ne_of_none g.d hT, ne_of_none g.d hF, ne_of_none g.m hT, ne_of_none g.m hF, ⟨ps, .inl (e6 _ _ g.d), g.pd.mono fun _ _ y => y.same e6⟩, ⟨qs, .inl (e6 _ _ g.m), g.pm⟩, hl, hnd, fun ys H7 hpm hst fr7 hH => ?_⟩
    exact q ys y H7 hpm hst hy (fun b o h => fr7 b o (ne_of_none h hy) (ne_of_none h hT) (ne_of_none h hF) (e6 _ _ h)) ⟨T, F, hT, hF, hH⟩
end
abbrev s_Tree_refusal_at : Stmt := inClass (topS 57) 2
abbrev N_Tree_refusal_at : List Str := ["self", "path", "member", "target", "kind"]
theorem sc_Tree_refusal_at : FnScope N_Tree_refusal_at ["self", "path", "member", "target"] (defScope s_Tree_refusal_at) := ⟨rfl, rfl, rfl, by decide +kernel, rfl, by decide +kernel, by decide +kernel⟩
/-! ### what a tree refuses -/
structure KitD (K : PySem.W.Frag) (c : Cs) : Prop where
  dd : PySem.W.kitOne K (.ref c.D) (.ref c.D) = some true
  fd : PySem.W.kitOne K (.ref c.F) (.ref c.D) = some false
  sd : PySem.W.kitOne K (.ref c.S) (.ref c.D) = some false
  yd : PySem.W.kitOne K (.ref c.Y) (.ref c.D) = some false
  ld : PySem.W.kitOne K (.ref c.L) (.ref c.D) = some false
  yl : PySem.W.kitOne K (.ref c.Y) (.ref c.L) = some false
def Mem.cls (c : Cs) : Mem → Addr
  | .file .. => c.F
  | .sparse .. => c.S
  | .dir .. => c.D
  | .sym .. => c.Y
  | .lnk .. => c.L
def Mem.isDir : Mem → Bool
  | .dir .. => true
  | _ => false
def Mem.isLnk : Mem → Bool
  | .lnk .. => true
  | _ => false
theorem Mem.tyM {K : PySem.W.Frag} {c : Cs} {aM x : Addr} {H : Hp} {m : Mem} (M : MF K c aM) (h : m.Ins c H x) : TyX K H (.ref x) (.ref (m.cls c)) := by
  cases m with
  | file n b t ns => obtain ⟨dx, hx⟩ := h; exact M.fF.ty hx
  | sparse n b t z sp => obtain ⟨dx, p, hx, _⟩ := h; exact M.fS.ty hx
  | dir n b t => obtain ⟨dx, hx⟩ := h; exact M.fD.ty hx
  | sym n b t g => obtain ⟨dx, hx⟩ := h; exact M.fY.ty hx
  | lnk n b t g => obtain ⟨dx, hx⟩ := h; exact M.fL.ty hx
theorem Mem.kitD {K : PySem.W.Frag} {c : Cs} (N : KitD K c) (m : Mem) : PySem.W.kitOne K (.ref (m.cls c)) (.ref c.D) = some m.isDir := by
  cases m
  · exact N.fd
  · exact N.sd
  · exact N.dd
  · exact N.yd
  · exact N.ld
theorem Mem.kitL {K : PySem.W.Frag} {c : Cs} {aM : Addr} (M : MF K c aM) (N : KitD K c) (m : Mem) : PySem.W.kitOne K (.ref (m.cls c)) (.ref c.L) = some m.isLnk := by
  cases m
  · exact M.kt.fl
  · exact M.kt.sl
  · exact M.kt.dl
  · exact N.yl
  · exact M.kt.ll
def refP (l : List (Str × Thg)) (z : Str) (m : Mem) (tg : Str) : Str :=
  if m.isDir = true then (if ("file" == kindA l z || "symlink" == kindA l z) = true then "occupied" else "")
  else if kindA l z = "directory" then "directory" else if (m.isLnk && !decide (kindA l tg = "file")) = true then "target" else ""
section
variable {P : Program} {w : World} {K : PySem.W.Frag} {mg : Str → Option Value} {base : Heap}
def spRefAt (K : PySem.W.Frag) (C : Addr) (c : Cs) : Sp := fun vs H Q _ => ∃ (x y : Addr) (z tg : Str) (t : Trd) (m : Mem), vs = [.ref x, .str z, .ref y, .str tg] ∧ TrAt K C H x t ∧ m.Ins c H y ∧ ∀ H', Same H H' → Q (.str (refP t.things z m tg)) H'
theorem ok_refat {f C aM : Addr} {fd : FuncData} {k : Nat} {c : Cs} (F : Fun K "refusal_at" "Tree.refusal_at" s_Tree_refusal_at f fd) (hc : TrC K C) (m1 : mg "isinstance" = none) (M : MF K c aM) (N : KitD K c) (m_D : mg "Directory" = some (.ref c.D)) (m_L : mg "Link" = some (.ref c.L)) (c_kind_at : CalT P w K mg base 2 "kind_at" (spKindAt K)) : FnOk P w K mg base CX0 (k + 3) f fd ["self", "path", "member", "target"] (spRefAt K C c) := by
  refine F.ok sc_Tree_refusal_at (fun vs H Q E9 h => ?_) (fun cdv A outer s H vs Q E9 hr h => ?_)
  · obtain ⟨x, y, z, tg, t, m, rfl, _⟩ := h
    rfl
  · obtain ⟨x, y, z, tg, t, m, rfl, ⟨dx, D, Mk, ps, qs, g⟩, hm, q⟩ := h
    have hu := hu_of hr
    have nd := sc_Tree_refusal_at.nd
    have hTh : ThR K H D t.things := ⟨ps, .inl g.d, g.pd⟩
    have ty := Mem.tyM M hm
    unfold refP at q
    refine ⟨_, (pss_cons (ps_set (i := 4) nd rfl (Or.inl rfl) (pe_cc c_kind_at hr (by omega) (by rfl) (pa_cons (pv 1) (pa_cons (pe_fldN K (pv 0)) pa_nil))))
      (pss_cons (ps_if (pt_val (pe_callB (call_isiK1 K) (by rfl) (by assumption) (by decide +kernel) (pa_cons (pv 2) (pa_cons (pe_glob (v := .ref c.D) (by rfl) m_D (by first | exact rfl | exact ⟨_, rfl⟩)) pa_nil))))
        (pss_one (ps_ret (pe_ifExp (pt_cmpR (op_inK K) (pv 4) (pe_tup (pa_cons pe_str (pa_cons pe_str pa_nil))) (by rfl)) pe_str pe_str)))
        pss_nil)
      (pss_cons (ps_if (pt_cmpR op_eq (pv 4) pe_str (nomark _))
        (pss_one (ps_ret pe_str))
        pss_nil)
      (pss_cons (ps_if (PW.pt (pw_and (pt_val (pe_callB (call_isiK1 K) (by rfl) (by assumption) (by decide +kernel) (pa_cons (pv 2) (pa_cons (pe_glob (v := .ref c.L) (by rfl) m_L (by first | exact rfl | exact ⟨_, rfl⟩)) pa_nil)))) (pw_and1 (pt_cmpR op_ne (pe_cc c_kind_at hr (by omega) (by rfl) (pa_cons (pv 3) (pa_cons (pe_fldN K (pv 0)) pa_nil))) pe_str (nomark _)))))
        (pss_one (ps_ret pe_str))
        pss_nil)
      (pss_one (ps_ret pe_str)))))), ?_⟩
    walk_at "rd"
    refine r_fldE g.ob hc.cl hc.things rfl ?_
    walk_at "rd"
    refine ⟨z, D, t.things, rfl, hTh, ?_⟩
    walk_at "rd"
    refine r_is1 ty (Mem.kitD N m) ?_
    refine ⟨_, rfl, ?_⟩
    cases hdir : m.isDir with
    | true =>
      rw [hdir, if_pos rfl] at q
      walk_at "rd"
      rename_i p9 hp9
      have e9 := same_new (o := HO.tup [V.str "file", V.str "symlink"]) hp9
      rw [show inV (.str (kindA t.things z)) [.str "file", .str "symlink"] = ("file" == kindA t.things z || "symlink" == kindA t.things z) by simp [inV, eqV]]
      cases hk : ("file" == kindA t.things z || "symlink" == kindA t.things z) with
      | true =>
        rw [hk, if_pos rfl] at q
        walk_at "rd"
        exact q _ e9
      | false =>
        rw [hk, if_neg (by decide)] at q
        walk_at "rd"
        exact q _ e9
    | false =>
      rw [hdir, if_neg (by decide)] at q
      walk_at "rd"
      rw [dec_strV]
      refine r_iteD (fun h => ?_) (fun h => ?_)
      · rw [if_pos h] at q
        walk_at "rd"
        exact q _ (Same.refl _)
      · rw [if_neg h] at q
        walk_at "rd"
        refine r_is1 ty (Mem.kitL M N m) ?_
        refine ⟨_, rfl, ?_⟩
        cases hl : m.isLnk with
        | false =>
          rw [hl, Bool.false_and, if_neg (by decide)] at q
          walk_at "rd"
          exact q _ (Same.refl _)
        | true =>
          rw [hl, Bool.true_and] at q
          walk_at "rd"
          refine r_fldE g.ob hc.cl hc.things rfl ?_
          walk_at "rd"
          refine ⟨tg, D, t.things, rfl, hTh, ?_⟩
          walk_at "rd"
          rw [dec_strV]
          cases hf : decide (kindA t.things tg = "file") with
          | true =>
            rw [hf, if_neg (by decide)] at q
            walk_at "rd"
            exact q _ (Same.refl _)
          | false =>
            rw [hf, if_pos (by decide)] at q
            walk_at "rd"
            exact q _ (Same.refl _)
end
abbrev s_File_content : Stmt := inClass (topS 38) 4
abbrev N_File_content : List Str := ["self"]
theorem sc_File_content : FnScope N_File_content ["self"] (defScope s_File_content) := ⟨rfl, rfl, rfl, by decide +kernel, rfl, by decide +kernel, by decide +kernel⟩
abbrev s_Sparse_content : Stmt := inClass (topS 39) 4
abbrev N_Sparse_content : List Str := ["self", "parts", "end", "offset", "data"]
theorem sc_Sparse_content : FnScope N_Sparse_content ["self"] (defScope s_Sparse_content) := ⟨rfl, rfl, rfl, by decide +kernel, rfl, by decide +kernel, by decide +kernel⟩
/-! ### content -/
def rBytesN : List V → Hp → VK → Prop := fun xs H Q => ∃ n : Int, xs = [.int n] ∧ 0 ≤ n ∧ n ≤ 16777216 ∧ Q (.byt (Array.replicate n.toNat 0)) H
theorem call_bytesN {X : Cx} : CallR X (.type "bytes") rBytesN := by
  intro pins s σ H xs us Q I r h
  obtain ⟨n, rfl, h0, h1, q⟩ := h
  obtain ⟨u, rfl, t, rfl⟩ : ∃ u, us = [u] ∧ ∃ t, u = Value.int n t := by
    obtain ⟨u, rfl, ru⟩ := vals1 r
    exact ⟨u, rfl, ru⟩
  exact call_bytes_size h0 h1 fun t' k => ⟨.byt _, H, I.tok k, ⟨_, rfl⟩, q⟩
theorem r_bytesN {n : Int} {H : Hp} {Q : VK} (h0 : 0 ≤ n) (h1 : n ≤ 16777216) (h : Q (.byt (Array.replicate n.toNat 0)) H) : rBytesN [.int n] H Q := ⟨n, rfl, h0, h1, h⟩
/-- a method of bytes -/
def tBMB (r : V → List V → Hp → VK → Prop) (to : TE) (t : TA) : TE := fun σ H Q => to σ H fun x H1 => ∃ y, x = .byt y ∧ t σ H1 fun xs H2 => r x xs H2 Q
theorem pe_bmB {X : Cx} {o e : Expr} {es : List Expr} {to : TE} {t : TA} {name : Str} {apos cpos : Pos} {id : String} {r : V → List V → Hp → VK → Prop} (pa : PlainAttrs "bytes") (slot : Slot "bytes" name id) (hty : typeOf (.builtin id) = pure (.type "method_descriptor")) (hm : MtR X id r) (ho : PE X o to) (ha : PA X (e :: es) t)
    (hbase : attributeBase o name X.env (eval o X.env) = eval o X.env := by rfl)
    (hfew : ((backTo cpos (starEach (e :: es) X.env)).all (fun x => !x.1) && (backToKw cpos (keywordEach [] X.env)).all (fun x => x.1.isSome)
      && decide ((e :: es).length + ([] : List Keyword).length + (if ([] : List Keyword).isEmpty then 0 else 1) < 30)) = true := by rfl)
    (hline : (apos.endLine == cpos.line) = true := by rfl) (hs : starEach (e :: es) X.env = (false, eval e X.env) :: starEach es X.env := by rfl) (hplain : (backTo cpos (starEach es X.env)).any (·.1) = false := by rfl) :
    PE X (.Call (.Attribute o name apos) (e :: es) [] cpos) (tBMB r to t) := by
  refine ⟨fun pins s σ H Q I h => ?_⟩
  refine wpAny_Call_method_late hbase hfew hline rfl (thn (ho.run pins s σ H _ I h) fun v s1 ⟨x, H1, I1, r1, y, ex, q1⟩ => ?_)
  subst ex
  obtain ⟨tk, rfl⟩ := (show ∃ tk, v = Value.bytes y tk from r1)
  refine ⟨"bytes", id, pa, slot, hty, PySem.W.typeIs_bytes s1 y tk, fun a e => (by cases e), ?_⟩
  have hA := ha.run cpos pins s1 σ H1 _ I1 q1
  rw [hs] at hA ⊢
  refine Calls.callWith_builtin (by show (false || (backTo cpos (starEach es X.env)).any (·.1)) = false; rw [hplain] <;> rfl) (Calls.evalArgs_plain ?_)
  exact thn hA fun us s2 ⟨vs, H2, I2, r2, q2⟩ => hm pins s2 σ H2 (.byt y) vs _ us Q I2 r1 r2 q2
theorem r_bmB {σ : L2.St} {H : Hp} {Q : VK} {r : V → List V → Hp → VK → Prop} {to : TE} {t : TA} (h : to σ H fun x H1 => ∃ y, x = .byt y ∧ t σ H1 fun xs H2 => r x xs H2 Q) : tBMB r to t σ H Q := h
/-- all the bytes of a list of bytes, one after another -/
def flatB (bs : List (Array UInt8)) : List UInt8 := (bs.map Array.toList).flatten
theorem flatB_snoc (bs : List (Array UInt8)) (y : Array UInt8) : flatB (bs ++ [y]) = flatB bs ++ y.toList := by
  unfold flatB
  simp
theorem fold_join : ∀ (l : List (Array UInt8 × Nat)) (acc : Array UInt8), (l.foldl (fun out (p : Array UInt8 × Nat) => (if p.2 > 0 then out ++ (#[] : Array UInt8) else out) ++ p.1) acc).toList = acc.toList ++ ((l.map Prod.fst).map Array.toList).flatten
  | [], acc => by simp
  | (p, i) :: r, acc => by
    rw [List.foldl_cons, fold_join r]
    by_cases h : i > 0
    · simp [h]
    · simp [h]
theorem joined_flat (bs : List (Array UInt8)) : (Builtin.Bytes.joined #[] bs).toList = flatB bs := by
  unfold Builtin.Bytes.joined
  have h := fold_join bs.zipIdx #[]
  rw [List.zipIdx_map_fst] at h
  exact h
theorem fold_size : ∀ (bs : List (Array UInt8)) (n : Nat), bs.foldl (· + ·.size) n = n + (flatB bs).length
  | [], n => by simp [flatB]
  | b :: r, n => by
    rw [List.foldl_cons, fold_size r]
    simp [flatB, Nat.add_assoc]
theorem r_bjoin {K : PySem.W.Frag} {p : Addr} {bs : List (Array UInt8)} {H : Hp} {Q : VK} (hp : H p = some (.lst (bs.map V.byt))) (hz : (flatB bs).length ≤ 16777216) (h : Q (.byt (flatB bs).toArray) H) : rBjoin K (.byt #[]) [.ref p] H Q := by
  have e : Builtin.Bytes.joined #[] bs = (flatB bs).toArray := by
    apply Array.ext'
    rw [joined_flat]
  refine ⟨#[], p, bs, rfl, rfl, SqL.of hp, ?_, ?_, ?_⟩
  · rw [← Array.foldl_toList, fold_size]
    unfold Builtin.Bytes.tooLong
    rw [sizeLine_eq]
    exact decide_eq_false (by simp; omega)
  · rw [e, sizeLine_eq, List.size_toArray]
    exact hz
  · rw [e]
    exact h
/-- what a row of pieces says from the place e on -/
def fillL (z e : Int) : List (Int × Array UInt8) → List UInt8
  | [] => List.replicate (z - e).toNat 0
  | s :: r => List.replicate (s.1 - e).toNat 0 ++ (s.2.toList ++ fillL z (s.1 + s.2.size) r)
def spContF (C : Addr) : Sp := fun vs H Q _ => ∃ (a dx : Addr) (fs : List (Str × V)) (y : Array UInt8), vs = [.ref a] ∧ H a = some (.ins C dx fs) ∧ fs.lookup (Str.ofString "data") = some (.byt y) ∧ Q (.byt y) H
def spContS (C : Addr) : Sp := fun vs H Q _ => ∃ (a dx p : Addr) (fs : List (Str × V)) (z : Int) (ps : List (Int × Array UInt8)), vs = [.ref a] ∧ H a = some (.ins C dx fs) ∧ fs.lookup (Str.ofString "size") = some (.int z) ∧ fs.lookup (Str.ofString "pieces") = some (.ref p) ∧
  PcsT H p ps ∧ pcsOk z ps ∧ 0 ≤ z ∧ z ≤ 4096 ∧ ps.length ≤ 50 ∧ ∀ H', Same H H' → Q (.byt (fillL z 0 ps).toArray) H'
def tOrE (a b : TE) : TE := fun σ H Q => a σ H Q ∨ b σ H Q
theorem r_orL {a b : TE} {σ : L2.St} {H : Hp} {Q : VK} (h : a σ H Q) : tOrE a b σ H Q := .inl h
theorem r_orR {a b : TE} {σ : L2.St} {H : Hp} {Q : VK} (h : b σ H Q) : tOrE a b σ H Q := .inr h
theorem pe_or2 {X : Cx} {e : Expr} {a b : TE} (h1 : PE X e a) (h2 : PE X e b) : PE X e (tOrE a b) :=
  ⟨fun pins s σ H Q I h => h.elim (h1.run pins s σ H Q I) (h2.run pins s σ H Q I)⟩
section
variable {P : Program} {w : World} {K : PySem.W.Frag} {mg : Str → Option Value} {base : Heap}
theorem ok_contF {f C : Addr} {fd : FuncData} {k : Nat} (F : Fun K "content" "File.content" s_File_content f fd) (hc : Cls K C) (a1 : NoAttr K C "data") : FnOk P w K mg base CX0 (k + 2) f fd ["self"] (spContF C) := by
  refine F.ok sc_File_content (fun vs H Q E h => ?_) (fun cdv A outer s H vs Q E hr h => ?_)
  · obtain ⟨a, dx, fs, n, rfl, _⟩ := h
    rfl
  · obtain ⟨a, dx, fs, y, rfl, ha, hy, q⟩ := h
    have hu := hu_of hr
    have nd := sc_File_content.nd
    refine ⟨_, (pss_one (ps_ret (pe_fld (pv 0) rfl))), ?_⟩
    walk_at "rd"
    exact r_fldE ha hc a1 hy q
theorem ok_contS {f C : Addr} {fd : FuncData} {k : Nat} (F : Fun K "content" "Sparse.content" s_Sparse_content f fd) (hc : Cls K C) (a1 : NoAttr K C "size") (a2 : NoAttr K C "pieces") (m1 : mg "bytes" = none) (m2 : mg "len" = none) : FnOk P w K mg base CX0 (k + 2) f fd ["self"] (spContS C) := by
  refine F.ok sc_Sparse_content (fun vs H Q E h => ?_) (fun cdv A outer s H vs Q E hr h => ?_)
  · obtain ⟨a, dx, p, fs, z, ps, rfl, _⟩ := h
    rfl
  · obtain ⟨a, dx, p, fs, z, ps, rfl, ha, hz, hps, ⟨as, hp, hpd⟩, hok, z0, z1, hn, q⟩ := h
    have hu := hu_of hr
    have nd := sc_Sparse_content.nd
    refine ⟨_, (pss_cons (ps_set (i := 1) nd rfl (Or.inl rfl) (pe_lst pa_nil))
      (pss_cons (ps_set (i := 2) nd rfl (Or.inl rfl) pe_int)
      (pss_cons (ps_for PassesOwn.never rfl (pi_tup (pe_fld (pv 0) rfl)) (pg_tupK K (pg_tup rfl (pgs_cons (pg_name (i := 3) nd rfl (Or.inl rfl)) (pgs_cons (pg_name (i := 4) nd rfl (Or.inl rfl)) pgs_nil))))
        (pss_cons (ps_expr (pe_bm PySem.F.plainAttrs_list PySem.F.slot_list_append PySem.F.type_list_append mt_append (pv 1) (pa_cons (pe_callTy call_bytesN (by rfl) (by assumption) (by decide +kernel) (pa_cons (pe_op op_sub (pv 3) (pv 2)) pa_nil)) pa_nil)))
      (pss_cons (ps_expr (pe_bm PySem.F.plainAttrs_list PySem.F.slot_list_append PySem.F.type_list_append mt_append (pv 1) (pa_cons (pv 4) pa_nil)))
      (pss_one (ps_set (i := 2) nd rfl (Or.inl rfl) (pe_op op_add (pv 3) (pe_callB call_rLenY (by rfl) (by assumption) (by decide +kernel) (pa_cons (pv 4) pa_nil))))))))
      (pss_cons (ps_expr (pe_bm PySem.F.plainAttrs_list PySem.F.slot_list_append PySem.F.type_list_append mt_append (pv 1) (pa_cons (pe_callTy call_bytesN (by rfl) (by assumption) (by decide +kernel) (pa_cons (pe_op op_sub (pe_fld (pv 0) rfl) (pv 2)) pa_nil)) pa_nil)))
      (pss_one (ps_ret (pe_bmB PySem.W.FB.plainAttrs_bytes R59.slot_bjoin R59.type_bjoin mt_bjoin pe_byt (pa_cons (pv 1) pa_nil)))))))), ?_⟩
    walk_at "rd"
    refine r_fldE (upd_old (by assumption) ha) hc a2 hps ?_
    walk_at "rd"
    rename_i L hL
    have lenA : as.length = ps.length := hpd.length
    have e0 := same_new (o := .lst []) hL
    refine for_it (walk_tup (xs := as.map V.ref)) (fun i σ H' => ∃ (e : Int) (bs : List (Array UInt8)) (v3 v4 : Option V), σ = [some (.ref a), some (.ref L), some (.int e), v3, v4] ∧ Same H H' ∧ H' L = some (.lst (bs.map V.byt)) ∧ 0 ≤ e ∧ e ≤ z ∧ ((flatB bs).length : Int) = e ∧ bs.length = 2 * i ∧
      flatB bs ++ fillL z e (ps.drop i) = fillL z 0 ps ∧ (∃ l, e ≤ l ∧ spansOk z l ((ps.drop i).map fun s => (s.1, (s.2.size : Int))))) ?_ (fun i σ H' _ ⟨_, _, _, _, _, e, _⟩ => SqT.of (e _ _ hp)) ?_ ?_
    · exact ⟨0, [], _, _, rfl, e0, upd_same, Int.le_refl 0, z0, rfl, rfl, rfl, 0, Int.le_refl 0, hok⟩
    · rintro i x σ Hc H' hi ⟨e, bs, v3, v4, rfl, es, hl, h0, hez, hfl, hbl, hfi, l, hel, hsp⟩ ⟨rfl, hx⟩
      rw [List.getElem?_map] at hx
      obtain ⟨qa, hqa, rfl⟩ : ∃ qa, as[i]? = some qa ∧ V.ref qa = x := by
        cases e : as[i]? with
        | none => rw [e] at hx; cases hx
        | some qa => rw [e] at hx; exact ⟨qa, rfl, Option.some.inj hx⟩
      obtain ⟨s, hsi, hqt⟩ := paired_at hpd hqa
      have hq' := es _ _ hqt
      have hdrop : ps.drop i = s :: ps.drop (i + 1) := by
        obtain ⟨hlt, hge⟩ := List.getElem?_eq_some_iff.mp hsi
        rw [← hge]
        exact List.drop_eq_getElem_cons hlt
      have hi50 : i < 50 := by
        obtain ⟨hlt, _⟩ := List.getElem?_eq_some_iff.mp hsi
        omega
      rw [hdrop] at hsp hfi
      obtain ⟨g1, g2, g3, g4⟩ := hsp
      have g1 : e ≤ s.1 := Int.le_trans hel g1
      have g3 : s.1 + (s.2.size : Int) ≤ z := g3
      have hy : s.2.size ≤ 100000 := by omega
      walk_at "rd"
      refine r_bytesN (by omega) (by omega) ?_
      walk_at "rd"
      refine r_append hl (by rw [List.length_map, hbl]; exact Nat.lt_of_lt_of_le (by omega : 2 * i < 100) (by decide)) ?_
      walk_at "rd"
      refine r_append upd_same (by rw [List.length_append, List.length_map, hbl]; exact Nat.lt_of_lt_of_le (by simp; omega : _ < 200) (by decide)) ?_
      walk_at "rd"
      refine ⟨s.1 + s.2.size, bs ++ [Array.replicate (s.1 - e).toNat 0, s.2], _, _, rfl, ?_, ?_, by omega, g3, ?_, ?_, ?_, _, by omega, g4⟩
      · intro b o eo
        rw [upd_ne (ne_of_none eo hL), upd_ne (ne_of_none eo hL)]
        exact es _ _ eo
      · rw [upd_same, List.map_append, List.append_assoc]
        rfl
      · unfold flatB at hfl ⊢
        simp only [List.map_append, List.flatten_append, List.length_append, List.map_cons, List.map_nil, List.flatten_cons, List.flatten_nil, Array.length_toList, List.append_nil, Array.size_replicate]
        omega
      · rw [List.length_append, hbl]
        simp
        omega
      · rw [← hfi]
        unfold flatB
        simp [fillL]
    · rintro σ Hc ⟨e, bs, v3, v4, rfl, es, hl, h0, hez, hfl, hbl, hfi, hsp⟩
      rw [List.length_map, lenA, List.drop_length] at hfi
      rw [List.length_map] at hbl
      walk_at "rd"
      refine r_fldE (es _ _ ha) hc a1 hz ?_
      walk_at "rd"
      refine r_bytesN (by omega) (by omega) ?_
      walk_at "rd"
      refine r_append hl (by rw [List.length_map, hbl]; exact Nat.lt_of_lt_of_le (by omega : 2 * as.length < 200) (by decide)) ?_
      walk_at "rd"
      refine r_bmB ?_
      refine ⟨_, rfl, ?_⟩
      walk_at "rd"
      refine r_bjoin (bs := bs ++ [Array.replicate (z - e).toNat 0]) (by rw [upd_same, List.map_append]; rfl) ?_ ?_
      · rw [flatB_snoc, List.length_append, Array.toList_replicate, List.length_replicate]
        omega
      · have hfe : flatB (bs ++ [Array.replicate (z - e).toNat 0]) = fillL z 0 ps := by
          rw [flatB_snoc, ← hfi, Array.toList_replicate]
          rfl
        rw [hfe]
        refine q _ fun b o eo => ?_
        rw [upd_ne (ne_of_none eo hL)]
        exact es _ _ eo
end
abbrev s_thing_of : Stmt := topS 58
abbrev N_thing_of : List Str := ["member"]
theorem sc_thing_of : FnScope N_thing_of ["member"] (defScope s_thing_of) := ⟨rfl, rfl, rfl, by decide +kernel, rfl, by decide +kernel, by decide +kernel⟩
/-! ### the thing of a member -/
def Mem.thg : Mem → Option Thg
  | .file _ b t ns => some (.file (byteArr ns) b t)
  | .sparse _ b t z sp => some (.file (fillL z 0 (sp.map fun s => (s.1, byteArr s.2))).toArray b t)
  | .dir _ b t => some (.dir b t)
  | .sym _ b t g => some (.sym g b t)
  | .lnk .. => none
section
variable {P : Program} {w : World} {K : PySem.W.Frag} {mg : Str → Option Value} {base : Heap}
theorem pcs_ok {z : Int} {sp : List (Int × List Int)} (h : spansOk z 0 (sp.map fun s => (s.1, (s.2.length : Int)))) : pcsOk z (sp.map fun s => (s.1, byteArr s.2)) := by
  unfold pcsOk
  rw [List.map_map]
  have e : (sp.map ((fun s : Int × Array UInt8 => (s.1, (s.2.size : Int))) ∘ fun s => (s.1, byteArr s.2))) = sp.map fun s => (s.1, (s.2.length : Int)) := List.map_congr_left fun s _ => by
    show (s.1, ((byteArr s.2).size : Int)) = _
    rw [show (byteArr s.2).size = s.2.length by simp [byteArr]]
  rw [e]
  exact h
def spThingOf (K : PySem.W.Frag) (c : Cs) : Sp := fun vs H Q _ => ∃ (x : Addr) (m : Mem), vs = [.ref x] ∧ m.Ins c H x ∧ m.Ok ∧ (∀ y, m.thg = some y → ∀ v H', Same H H' → Thg.At K H' v y → Q v H') ∧ (m.thg = none → ∀ H', Same H H' → Q .non H')
theorem ok_thingof {f aM : Addr} {fd : FuncData} {k : Nat} {c : Cs} (F : Fun K "thing_of" "thing_of" s_thing_of f fd) (m1 : mg "isinstance" = none) (M : MF K c aM) (N : KitD K c) (m_D : mg "Directory" = some (.ref c.D)) (m_F : mg "File" = some (.ref c.F)) (m_S : mg "Sparse" = some (.ref c.S)) (m_Y : mg "Symlink" = some (.ref c.Y)) (m_contF : MethT P w K mg base 2 c.F "content" (spContF c.F)) (m_contS : MethT P w K mg base 2 c.S "content" (spContS c.S)) : FnOk P w K mg base CX0 (k + 3) f fd ["member"] (spThingOf K c) := by
  refine F.ok sc_thing_of (fun vs H Q E9 h => ?_) (fun cdv A outer s H vs Q E9 hr h => ?_)
  · obtain ⟨x, m, rfl, _⟩ := h
    rfl
  · obtain ⟨x, m, rfl, hm, hok, q1, q2⟩ := h
    have hu := hu_of hr
    have nd := sc_thing_of.nd
    have ty := Mem.tyM M hm
    refine ⟨_, (pss_cons (ps_if (pt_val (pe_callB (call_isiK1 K) (by rfl) (by assumption) (by decide +kernel) (pa_cons (pv 0) (pa_cons (pe_glob (v := .ref c.D) (by rfl) m_D (by first | exact rfl | exact ⟨_, rfl⟩)) pa_nil))))
        (pss_one (ps_ret (pe_tup (pa_cons pe_str (pa_cons (pe_fldN K (pv 0)) (pa_cons (pe_fldN K (pv 0)) pa_nil))))))
        pss_nil)
      (pss_cons (ps_if (pt_val (pe_callB (call_isiK1 K) (by rfl) (by assumption) (by decide +kernel) (pa_cons (pv 0) (pa_cons (pe_glob (v := .ref c.Y) (by rfl) m_Y (by first | exact rfl | exact ⟨_, rfl⟩)) pa_nil))))
        (pss_one (ps_ret (pe_tup (pa_cons pe_str (pa_cons (pe_fldN K (pv 0)) (pa_cons (pe_fldN K (pv 0)) (pa_cons (pe_fldN K (pv 0)) pa_nil)))))))
        pss_nil)
      (pss_cons (ps_if (pt_val (pe_callB (call_isiK2 K) (by rfl) (by assumption) (by decide +kernel) (pa_cons (pv 0) (pa_cons (pe_tup (pa_cons (pe_glob (v := .ref c.F) (by rfl) m_F (by first | exact rfl | exact ⟨_, rfl⟩)) (pa_cons (pe_glob (v := .ref c.S) (by rfl) m_S (by first | exact rfl | exact ⟨_, rfl⟩)) pa_nil))) pa_nil))))
        (pss_one (ps_ret (pe_tup (pa_cons pe_str (pa_cons (pe_or2 (pe_mt0 m_contF hr (by omega) (pv 0)) (pe_mt0 m_contS hr (by omega) (pv 0))) (pa_cons (pe_fldN K (pv 0)) (pa_cons (pe_fldN K (pv 0)) pa_nil)))))))
        pss_nil)
      (pss_one (ps_ret pe_non))))), ?_⟩
    walk_at "rd"
    refine r_is1 ty (Mem.kitD N m) ?_
    refine ⟨_, rfl, ?_⟩
    cases m with
    | sparse n b t z sp =>
      obtain ⟨dx, p, hx, hp⟩ := id hm
      obtain ⟨_, z0, z1, hn, hsp, _⟩ := hok
      refine r_iteF (r_next ?_)
      walk_at "rd"
      refine r_is1 (r := false) ty M.kt.sy ?_
      walk_at "rd"
      rename_i p9 hp9
      have e1 := same_new (o := HO.tup [V.ref c.F, V.ref c.S]) hp9
      refine r_isT (r := true) (same_tyB e1 ty) upd_same (kit2 M.kt.sf M.kt.ss) ?_
      walk_at "rd"
      refine r_orR (r_meth ?_)
      walk_at "rd"
      refine ⟨x, dx, _, rfl, e1 _ _ hx, rfl, ?_⟩
      refine ⟨x, dx, p, _, z, _, rfl, e1 _ _ hx, rfl, rfl, hp.same e1, pcs_ok hsp, z0, z1, by rw [List.length_map]; exact hn, fun H2 e2 => ?_⟩
      walk_at "rd"
      refine r_fldE (e2 _ _ (e1 _ _ hx)) M.fS.cl M.fS.n2 rfl ?_
      walk_at "rd"
      refine r_fldE (e2 _ _ (e1 _ _ hx)) M.fS.cl M.fS.n3 rfl ?_
      walk_at "rd"
      rename_i p2 hp2
      exact q1 _ rfl _ _ ((e1.trans e2).trans (same_new hp2)) ⟨p2, rfl, SqT.of upd_same⟩
    | dir n b t =>
      obtain ⟨dx, hx⟩ := id hm
      refine r_iteT ?_
      walk_at "rd"
      refine r_fldE hx M.fD.cl M.fD.n2 rfl ?_
      walk_at "rd"
      refine r_fldE hx M.fD.cl M.fD.n3 rfl ?_
      walk_at "rd"
      rename_i p hp
      exact q1 _ rfl _ _ (same_new hp) ⟨p, rfl, SqT.of upd_same⟩
    | sym n b t g =>
      obtain ⟨dx, hx⟩ := id hm
      refine r_iteF (r_next ?_)
      walk_at "rd"
      refine r_is1 (r := true) ty M.kt.yy ?_
      walk_at "rd"
      refine r_fldE hx M.fY.cl M.tY rfl ?_
      walk_at "rd"
      refine r_fldE hx M.fY.cl M.fY.n2 rfl ?_
      walk_at "rd"
      refine r_fldE hx M.fY.cl M.fY.n3 rfl ?_
      walk_at "rd"
      rename_i p hp
      exact q1 _ rfl _ _ (same_new hp) ⟨p, rfl, SqT.of upd_same⟩
    | lnk n b t g =>
      refine r_iteF (r_next ?_)
      walk_at "rd"
      refine r_is1 (r := false) ty M.kt.ly ?_
      walk_at "rd"
      rename_i p hp
      refine r_isT (r := false) (same_tyB (same_new hp) ty) upd_same (kit2 M.kt.lf M.kt.ls) ?_
      walk_at "rd"
      exact q2 rfl _ (same_new hp)
    | file n b t ns =>
      obtain ⟨dx, hx⟩ := id hm
      refine r_iteF (r_next ?_)
      walk_at "rd"
      refine r_is1 (r := false) ty M.kt.fy ?_
      walk_at "rd"
      rename_i p hp
      have e1 := same_new (o := HO.tup [V.ref c.F, V.ref c.S]) hp
      refine r_isT (r := true) (same_tyB e1 ty) upd_same (kit2t M.kt.ff) ?_
      walk_at "rd"
      refine r_orL (r_meth ?_)
      walk_at "rd"
      refine ⟨x, dx, _, rfl, e1 _ _ hx, rfl, ?_⟩
      refine ⟨x, dx, _, _, rfl, e1 _ _ hx, rfl, ?_⟩
      walk_at "rd"
      refine r_fldE (e1 _ _ hx) M.fF.cl M.fF.n2 rfl ?_
      walk_at "rd"
      refine r_fldE (e1 _ _ hx) M.fF.cl M.fF.n3 rfl ?_
      walk_at "rd"
      rename_i p2 hp2
      exact q1 _ rfl _ _ (e1.trans (same_new hp2)) ⟨p2, rfl, SqT.of upd_same⟩
end
abbrev s_Tree_put : Stmt := inClass (topS 57) 3
abbrev N_Tree_put : List Str := ["self", "path", "member", "target", "above", "mark", "thing"]
theorem sc_Tree_put : FnScope N_Tree_put ["self", "path", "member", "target"] (defScope s_Tree_put) := ⟨rfl, rfl, rfl, by decide +kernel, rfl, by decide +kernel, by decide +kernel⟩
/-! ### a member is put -/
def putAb (l : List (Str × Thg)) : List Str → List (Str × Thg)
  | [] => l
  | p :: r => putAb (if (look l p).isSome = true then l else putA l p (.dir 493 0)) r
theorem putAb_snoc : ∀ {a : List Str} {l : List (Str × Thg)} {p : Str}, putAb l (a ++ [p]) = if (look (putAb l a) p).isSome = true then putAb l a else putA (putAb l a) p (.dir 493 0)
  | [], l, p => rfl
  | q :: a, l, p => putAb_snoc (a := a)
theorem putAb_len : ∀ {a : List Str} {l : List (Str × Thg)}, (putAb l a).length ≤ l.length + a.length
  | [], l => Nat.le_refl _
  | q :: a, l => by
    show (putAb (if (look l q).isSome = true then l else putA l q (.dir 493 0)) a).length ≤ _
    have h := putAb_len (a := a) (l := if (look l q).isSome = true then l else putA l q (.dir 493 0))
    have h2 : (if (look l q).isSome = true then l else putA l q (.dir 493 0)).length ≤ l.length + 1 := by
      split
      · omega
      · exact put_len
    rw [List.length_cons]
    omega
def Mem.thg' (m : Mem) (l : List (Str × Thg)) (tg : Str) : Thg := if m.isLnk = true then thingP l tg else m.thg.getD (.lnk "")
def putT (t : Trd) (z : Str) (m : Mem) (tg : Str) : Trd :=
  ⟨putA (putAb t.things (aboveP z)) z (m.thg' (putAb t.things (aboveP z)) tg),
   if (m.thg' (putAb t.things (aboveP z)) tg).kind = "file" then putA t.marks z (if m.isLnk = true then (look t.marks tg).getD (Sum.inl 0) else Sum.inl (t.many + 1)) else dropA t.marks z,
   t.many + 1⟩
theorem drop_none {α : Type} {z : Str} : ∀ {l : List (Str × α)}, look l z = none → dropA l z = l
  | [], _ => rfl
  | (y, x) :: l, h => by
    rw [look_cons] at h
    by_cases e : y = z
    · rw [if_pos e] at h
      cases h
    · rw [if_neg e] at h
      unfold dropA
      rw [List.filter_cons_of_pos (by simp [e])]
      congr 1
      exact drop_none h
theorem putAb_look {x : Thg} {p : Str} : ∀ {a : List Str} {l : List (Str × Thg)}, look l p = some x → look (putAb l a) p = some x
  | [], l, h => h
  | q :: a, l, h => by
    show look (putAb (if (look l q).isSome = true then l else putA l q (.dir 493 0)) a) p = some x
    refine putAb_look ?_
    split
    · exact h
    · rename_i hq
      rw [look_put]
      by_cases e : p = q
      · subst e
        rw [h] at hq
        exact absurd rfl hq
      · rw [if_neg e]
        exact h
theorem Mem.ob {c : Cs} {H : Hp} {y : Addr} {m : Mem} (h : m.Ins c H y) : ∃ C dx fs, H y = some (.ins C dx fs) := by
  cases m with
  | file n b t ns => obtain ⟨dx, hx⟩ := h; exact ⟨_, _, _, hx⟩
  | sparse n b t z sp => obtain ⟨dx, p, hx, _⟩ := h; exact ⟨_, _, _, hx⟩
  | dir n b t => obtain ⟨dx, hx⟩ := h; exact ⟨_, _, _, hx⟩
  | sym n b t g => obtain ⟨dx, hx⟩ := h; exact ⟨_, _, _, hx⟩
  | lnk n b t g => obtain ⟨dx, hx⟩ := h; exact ⟨_, _, _, hx⟩
theorem PcsT.tk {H H' : Hp} {p : Addr} {ps : List (Int × Array UInt8)} (e : TK H H') (h : PcsT H p ps) : PcsT H' p ps := by
  obtain ⟨as, h1, h2⟩ := h
  exact ⟨as, e.1 _ _ h1, Paired.mapP h2 fun _ _ y => e.1 _ _ y⟩
theorem Mem.keepN {c : Cs} {H H' : Hp} {y : Addr} {m : Mem} (tk : TK H H') (k : ∀ o, H y = some o → H' y = some o) (h : m.Ins c H y) : m.Ins c H' y := by
  cases m with
  | file n b t ns => obtain ⟨dx, hx⟩ := h; exact ⟨dx, k _ hx⟩
  | sparse n b t z sp => obtain ⟨dx, p, hx, hp⟩ := h; exact ⟨dx, p, k _ hx, hp.tk tk⟩
  | dir n b t => obtain ⟨dx, hx⟩ := h; exact ⟨dx, k _ hx⟩
  | sym n b t g => obtain ⟨dx, hx⟩ := h; exact ⟨dx, k _ hx⟩
  | lnk n b t g => obtain ⟨dx, hx⟩ := h; exact ⟨dx, k _ hx⟩
theorem Mem.lnkN {m : Mem} {y9 : Thg} (h : m.thg = some y9) : m.isLnk = false := by
  cases m <;> first | rfl | cases h
theorem Mem.lnkY {m : Mem} (h : m.thg = none) : m.isLnk = true := by
  cases m with
  | file n b t ns => cases h
  | sparse n b t z sp => cases h
  | dir n b t => cases h
  | sym n b t g => cases h
  | lnk n b t g => rfl
def pIf (K : PySem.W.Frag) (c : Cs) : TS := tIfS (tB (tCB (rIsi K) (tCons (tVar 2) (tCons (tC (V.ref c.L)) tNil)))) (tSeq (tAsg (tDGet (tFld K (tVar 0) (Str.ofString "marks")) (tVar 3)) (gName 5)) (tAsg (tDGet (tFld K (tVar 0) (Str.ofString "things")) (tVar 3)) (gName 6))) tNext
def pTail (K : PySem.W.Frag) : TS := tSeq (sDPut (tFld K (tVar 0) (Str.ofString "things")) (tVar 1) (tVar 6)) (tIfS (tTest (tOp rEq (tOp (rIxT K) (tVar 6) (tC (V.int 0))) (tC (V.str (Str.ofString "file"))))) (sDPut (tFld K (tVar 0) (Str.ofString "marks")) (tVar 1) (tVar 5)) (tIfS (tB (tDIn (tVar 1) (tFld K (tVar 0) (Str.ofString "marks")))) (sDDel (tFld K (tVar 0) (Str.ofString "marks")) (tVar 1)) tNext))
theorem ok_pTail {K : PySem.W.Frag} {D9 : Ends} {H : Hp} {C x dx D M : Addr} {z : Str} {vy vt v4 : Option V} {v : V} {y9 : Thg} {mk : Key} {ps qs : List (Key × V)} {t : Trd} (hc : TrC K C) (g : TrIn K C H x dx D M ps qs t) (hv : Thg.At K H v y9) (lp : ps.length ≤ 3000) (lq : qs.length ≤ 3000)
    (k : ∀ ps' qs' H', (∀ b o, b ≠ D → b ≠ M → H b = some o → H' b = some o) → TrIn K C H' x dx D M ps' qs' ⟨putA t.things z y9, if y9.kind = "file" then putA t.marks z mk else dropA t.marks z, t.many⟩ → D9.nx [some (.ref x), some (.str z), vy, vt, v4, some (kV mk), some v] H') :
    pTail K D9 [some (.ref x), some (.str z), vy, vt, v4, some (kV mk), some v] H := by
  have Dx : D ≠ x := fun e => by have := g.d; rw [e, g.ob] at this; cases this
  have Mx : M ≠ x := fun e => by have := g.m; rw [e, g.ob] at this; cases this
  have tkd := tk_dK (o := .dK (putK ps (Sum.inr z) v)) g.d
  have gx1 : upd H D (.dK (putK ps (Sum.inr z) v)) x = some (.ins C dx (trF D M t.many)) := by rw [upd_ne Dx.symm]; exact g.ob
  have gM1 : upd H D (.dK (putK ps (Sum.inr z) v)) M = some (.dK qs) := by rw [upd_ne g.ne.symm]; exact g.m
  have pd1 : TabR (Thg.At K (upd H D (.dK (putK ps (Sum.inr z) v)))) (putK ps (Sum.inr z) v) (putA t.things z y9) := (g.pd.mono fun _ _ y => y.tk tkd).put (hv.tk tkd)
  obtain ⟨tt, rfl, ht⟩ := hv.tk tkd
  obtain ⟨r, hr⟩ := y9.vals0
  rw [hr] at ht
  unfold pTail
  walk_at "rd"
  refine r_fldE g.ob hc.cl hc.things rfl ?_
  walk_at "rd"
  refine ⟨D, _, rfl, DPut.k (k := Sum.inr z) g.d (Nat.lt_of_le_of_lt lp (by decide)), ?_⟩
  walk_at "rd"
  refine r_ixT (i := 0) (v := .str y9.kind) ht (atI_nat (j := 0) rfl) ?_
  walk_at "rd"
  rw [dec_strV]
  refine r_iteD (fun hk => ?_) (fun hk => ?_)
  · walk_at "rd"
    refine r_fldE gx1 hc.cl hc.marks rfl ?_
    walk_at "rd"
    refine ⟨M, _, rfl, DPut.k (k := Sum.inr z) gM1 (Nat.lt_of_le_of_lt lq (by decide)), ?_⟩
    have tkm := tk_dK (o := .dK (putK qs (Sum.inr z) (kV mk))) gM1
    refine k _ _ _ (fun b o n1 n2 h => by rw [upd_ne n2, upd_ne n1]; exact h) ⟨by rw [upd_ne Mx.symm]; exact gx1, by rw [upd_ne g.ne]; exact upd_same, pd1.mono fun _ _ y => y.tk tkm, upd_same, ?_, g.ne⟩
    show TabR _ _ (if y9.kind = "file" then putA t.marks z mk else dropA t.marks z)
    rw [if_pos hk]
    exact g.pm.put rfl
  · walk_at "rd"
    refine r_fldE gx1 hc.cl hc.marks rfl ?_
    refine ⟨M, valV qs (Sum.inr z), rfl, .inl ⟨qs, Sum.inr z, .inl gM1, rfl, rfl⟩, ?_⟩
    refine ⟨_, rfl, ?_⟩
    rcases g.pm.get (z := z) with ⟨k1, k2⟩ | ⟨w, y, k1, k2, _⟩
    · rw [k1]
      refine r_iteF (r_next ?_)
      refine k _ _ _ (fun b o n1 n2 h => by rw [upd_ne n1]; exact h) ⟨gx1, upd_same, pd1, gM1, ?_, g.ne⟩
      show TabR _ _ (if y9.kind = "file" then putA t.marks z mk else dropA t.marks z)
      rw [if_neg hk, drop_none k2]
      exact g.pm
    · rw [k1]
      refine r_iteT ?_
      walk_at "rd"
      refine r_fldE gx1 hc.cl hc.marks rfl ?_
      walk_at "rd"
      have tkm := tk_dK (o := .dK (dropK qs (Sum.inr z))) gM1
      refine ⟨M, qs, Sum.inr z, rfl, gM1, rfl, by rw [k1]; rfl, ?_⟩
      refine k _ _ _ (fun b o n1 n2 h => by rw [upd_ne n2, upd_ne n1]; exact h) ⟨by rw [upd_ne Mx.symm]; exact gx1, by rw [upd_ne g.ne]; exact upd_same, pd1.mono fun _ _ y => y.tk tkm, upd_same, ?_, g.ne⟩
      show TabR _ _ (if y9.kind = "file" then putA t.marks z mk else dropA t.marks z)
      rw [if_neg hk]
      exact g.pm.drop
section
variable {P : Program} {w : World} {K : PySem.W.Frag} {mg : Str → Option Value} {base : Heap}
def spPut (K : PySem.W.Frag) (C : Addr) (c : Cs) : Sp := fun vs H Q _ => ∃ (x y dx D M : Addr) (z tg : Str) (t : Trd) (m : Mem) (ps qs : List (Key × V)), vs = [.ref x, .str z, .ref y, .str tg] ∧ TrIn K C H x dx D M ps qs t ∧ x ≠ y ∧ m.Ins c H y ∧ m.Ok ∧ z.length ≤ 1000 ∧ t.things.length ≤ 1000 ∧ t.marks.length ≤ 1000 ∧
  (m.isLnk = true → kindA t.things tg = "file" ∧ (look t.marks tg).isSome = true) ∧
  ∀ ps' qs' H', (∀ b o, b ≠ x → b ≠ D → b ≠ M → H b = some o → H' b = some o) → TrIn K C H' x dx D M ps' qs' (putT t z m tg) → Q .non H'
theorem ok_put {f C aM aMD : Addr} {fd : FuncData} {k : Nat} {c : Cs} (F : Fun K "put" "Tree.put" s_Tree_put f fd) (hc : TrC K C) (m1 : mg "isinstance" = none) (MM : MF K c aM) (N : KitD K c) (m_L : mg "Link" = some (.ref c.L)) (m_MD : mg "MADE" = some (.ref aMD)) (md : ∀ H, SqT K H aMD [.str "directory", .int 493, .int 0]) (c_above : CalT P w K mg base 2 "paths_above" spAbove) (c_thingof : CalT P w K mg base 3 "thing_of" (spThingOf K c)) : FnOk P w K mg base CX0 (k + 4) f fd ["self", "path", "member", "target"] (spPut K C c) := by
  refine F.ok sc_Tree_put (fun vs H Q E9 h => ?_) (fun cdv A outer s H vs Q E9 hr h => ?_)
  · obtain ⟨x, y, dx, D, M, z, tg, t, m, ps, qs, rfl, _⟩ := h
    rfl
  · obtain ⟨x, y, dx, D, M, z, tg, t, m, ps, qs, rfl, g, nxy, hm, hs, hz, lt, lm, hlk, q⟩ := h
    have hu := hu_of hr
    have nd := sc_Tree_put.nd
    have ty := Mem.tyM MM hm
    refine ⟨_, (pss_cons (ps_for PassesOwn.never rfl (pi_list (pe_cc c_above hr (by omega) (by rfl) (pa_cons (pv 1) pa_nil))) (pg_name (i := 4) nd rfl (Or.inl rfl))
        (pss_one (ps_if (pt_cmp (pc_dnotin hu (pv 4) (pe_fldN K (pv 0))))
        (pss_one (ps_dput hu (pe_fldN K (pv 0)) (pv 4) (pe_glob (v := .ref aMD) (by rfl) m_MD (by first | exact rfl | exact ⟨_, rfl⟩)) rfl))
        pss_nil)))
      (pss_cons (ps_fldaugN K (pv 0) pe_int in_add)
      (pss_cons (ps_set (i := 5) nd rfl (Or.inl rfl) (pe_fldN K (pv 0)))
      (pss_cons (ps_set (i := 6) nd rfl (Or.inl rfl) (pe_cc c_thingof hr (by omega) (by rfl) (pa_cons (pv 2) pa_nil)))
      (pss_cons (ps_if (pt_val (pe_callB (call_isiK1 K) (by rfl) (by assumption) (by decide +kernel) (pa_cons (pv 2) (pa_cons (pe_glob (v := .ref c.L) (by rfl) m_L (by first | exact rfl | exact ⟨_, rfl⟩)) pa_nil))))
        (pss_cons (ps_set (i := 5) nd rfl (Or.inl rfl) (pe_dget hu (pe_fldN K (pv 0)) (pv 3) (fun _ _ => rfl)))
      (pss_one (ps_set (i := 6) nd rfl (Or.inl rfl) (pe_dget hu (pe_fldN K (pv 0)) (pv 3) (fun _ _ => rfl)))))
        pss_nil)
      (pss_cons (ps_dput hu (pe_fldN K (pv 0)) (pv 1) (pv 6) rfl)
      (pss_one (ps_if (pt_cmpR op_eq (pe_ix (ix_tupK K) (pv 6) pe_int (fun _ _ => rfl)) pe_str (nomark _))
        (pss_one (ps_dput hu (pe_fldN K (pv 0)) (pv 1) (pv 5) rfl))
        (pss_one (ps_if (pt_cmp (pc_din hu (pv 1) (pe_fldN K (pv 0))))
        (pss_one (ps_ddel (pe_fldN K (pv 0)) (pv 1)))
        pss_nil)))))))))), ?_⟩
    walk_at "rd"
    refine ⟨z, rfl, hz, fun L H1 hL e1 gL => ?_⟩
    walk_at "rd"
    have hal : (aboveP z).length ≤ 1001 := by
      unfold aboveP
      rw [List.length_map, List.length_range]
      have := PyProof.Rows.split_le z "/"
      omega
    have g1 : TrIn K C H1 x dx D M ps qs t := ⟨e1 _ _ g.ob, e1 _ _ g.d, g.pd.mono fun _ _ y => y.same e1, e1 _ _ g.m, g.pm, g.ne⟩
    have Lx : L ≠ x := (ne_of_none g.ob hL).symm
    have LD : L ≠ D := (ne_of_none g.d hL).symm
    have LM : L ≠ M := (ne_of_none g.m hL).symm
    have Dx : D ≠ x := fun e => by have := g.d; rw [e, g.ob] at this; cases this
    refine for_it (walk_list (xs := (aboveP z).map V.str)) (fun i σ H' => ∃ v4 v5 v6 ps', σ = [some (.ref x), some (.str z), some (.ref y), some (.str tg), v4, v5, v6] ∧ TrIn K C H' x dx D M ps' qs ⟨putAb t.things ((aboveP z).take i), t.marks, t.many⟩ ∧ (∀ b o, b ≠ x → b ≠ D → b ≠ M → H1 b = some o → H' b = some o) ∧ TK H1 H') ?_ (fun i σ H' _ ⟨_, _, _, _, _, _, fr, _⟩ => SqL.of (fr _ _ Lx LD LM gL)) ?_ ?_
    · exact ⟨none, none, none, ps, rfl, g1, fun _ _ _ _ _ h => h, TK.refl _⟩
    · rintro i v σ Hc H' hi ⟨v4, v5, v6, ps', rfl, g', fr, tk'⟩ ⟨rfl, hv⟩
      rw [List.getElem?_map] at hv
      obtain ⟨p, hp, rfl⟩ : ∃ x, (aboveP z)[i]? = some x ∧ V.str x = v := by
        cases e : (aboveP z)[i]? with
        | none => rw [e] at hv; cases hv
        | some x => rw [e] at hv; exact ⟨x, rfl, Option.some.inj hv⟩
      have psl : ps'.length ≤ 2001 := by
        have h1 := putAb_len (a := (aboveP z).take i) (l := t.things)
        have h2 : ((aboveP z).take i).length ≤ 1001 := by rw [List.length_take]; omega
        have h3 := g'.pd.len
        dsimp only at h3
        omega
      have hsn := putAb_snoc (a := (aboveP z).take i) (l := t.things) (p := p)
      rw [← take_snoc hp] at hsn
      walk_at "rd"
      refine r_fldE g'.ob hc.cl hc.things rfl ?_
      refine ⟨D, valV ps' (Sum.inr p), rfl, .inl ⟨ps', Sum.inr p, .inl g'.d, rfl, rfl⟩, ?_⟩
      refine ⟨_, rfl, ?_⟩
      rcases g'.pd.get (z := p) with ⟨k1, k2⟩ | ⟨w, y9, k1, k2, _⟩
      · rw [k1]
        dsimp only at k2
        rw [k2, if_neg (by decide)] at hsn
        refine r_iteT ?_
        walk_at "rd"
        refine r_fldE g'.ob hc.cl hc.things rfl ?_
        walk_at "rd"
        refine ⟨D, _, rfl, DPut.k (k := Sum.inr p) g'.d (Nat.lt_of_le_of_lt psl (by decide)), ?_⟩
        have tkd := tk_dK (o := .dK (putK ps' (Sum.inr p) (.ref aMD))) g'.d
        refine ⟨_, _, _, putK ps' (Sum.inr p) (.ref aMD), rfl, ⟨by rw [upd_ne Dx.symm]; exact g'.ob, upd_same, ?_, by rw [upd_ne g'.ne.symm]; exact g'.m, g'.pm, g'.ne⟩, fun b o n1 n2 n3 h => by rw [upd_ne n2]; exact fr b o n1 n2 n3 h, tk'.trans tkd⟩
        show TabR _ _ (putAb t.things ((aboveP z).take (i + 1)))
        rw [hsn]
        exact (g'.pd.mono fun _ _ y => y.tk tkd).put ⟨aMD, rfl, md _⟩
      · rw [k1]
        dsimp only at k2
        rw [k2, if_pos (show (some y9).isSome = true from rfl)] at hsn
        refine r_iteF (r_next ?_)
        refine ⟨_, _, _, ps', rfl, ⟨g'.ob, g'.d, ?_, g'.m, g'.pm, g'.ne⟩, fr, tk'⟩
        show TabR _ _ (putAb t.things ((aboveP z).take (i + 1)))
        rw [hsn]
        exact g'.pd
    · rintro σ Hc ⟨v4, v5, v6, ps', rfl, g', fr, tk'⟩
      rw [List.length_map, List.take_length] at g'
      walk_at "rd"
      unfold sFldAug
      walk_at "rd"
      refine ⟨x, C, dx, _, _, rfl, g'.ob, hc.cl, hc.many, rfl, ?_⟩
      walk_at "rd"
      refine ⟨t.many, 1, rfl, rfl, ?_⟩
      refine ⟨dx, _, g'.ob, (show 3 < 1000 by decide), ?_⟩
      dsimp only
      rw [show putF (Str.ofString "many") (V.int (t.many + 1)) (trF D M t.many) = trF D M (t.many + 1) from rfl]
      have Mx : M ≠ x := fun e => by have := g.m; rw [e, g.ob] at this; cases this
      have tkx : TK Hc (upd Hc x (.ins C dx (trF D M (t.many + 1)))) := ⟨fun a xs h => by rw [upd_ne (fun e => by rw [e, g'.ob] at h; cases h)]; exact h, fun a o xs h => by rw [upd_ne (fun e => by rw [e, g'.ob] at h; cases h)]; exact h⟩
      have H2 : ∃ H2, H2 = upd Hc x (.ins C dx (trF D M (t.many + 1))) := ⟨_, rfl⟩
      obtain ⟨H2, eH2⟩ := H2
      rw [← eH2]
      rw [← eH2] at tkx
      have gx2 : H2 x = some (.ins C dx (trF D M (t.many + 1))) := by rw [eH2]; exact upd_same
      have gD2 : H2 D = some (.dK ps') := by rw [eH2, upd_ne Dx]; exact g'.d
      have gM2 : H2 M = some (.dK qs) := by rw [eH2, upd_ne Mx]; exact g'.m
      have pd2 := g'.pd.mono fun _ _ y => y.tk tkx
      walk_at "rd"
      refine r_fldE gx2 hc.cl hc.many rfl ?_
      walk_at "rd"
      obtain ⟨Cy, dy, fy, hy⟩ := Mem.ob hm
      have yD : y ≠ D := fun e => by rw [e, g.d] at hy; cases hy
      have yM : y ≠ M := fun e => by rw [e, g.m] at hy; cases hy
      have hm2 : m.Ins c H2 y := Mem.keepN ((Same.tk e1).trans (tk'.trans tkx)) (fun o h => by rw [eH2, upd_ne nxy.symm]; exact fr _ _ nxy.symm yD yM (e1 _ _ h)) hm
      have g2 : TrIn K C H2 x dx D M ps' qs ⟨putAb t.things (aboveP z), t.marks, t.many + 1⟩ := ⟨gx2, gD2, pd2, gM2, g'.pm, g.ne⟩
      have psl : ps'.length ≤ 3000 := by
        have h1 := putAb_len (a := aboveP z) (l := t.things)
        have h3 := g'.pd.len
        dsimp only at h3
        omega
      have qsl : qs.length ≤ 3000 := by rw [g.pm.len]; omega
      have fr2 : ∀ b o, b ≠ x → b ≠ D → b ≠ M → H b = some o → H2 b = some o := fun b o n1 n2 n3 h => by rw [eH2, upd_ne n1]; exact fr b o n1 n2 n3 (e1 _ _ h)
      refine ⟨y, m, rfl, hm2, hs, fun y9 hy9 v H3 e3 hv => ?_, fun hn H3 e3 => ?_⟩
      · have hl := Mem.lnkN hy9
        have g3 : TrIn K C H3 x dx D M ps' qs ⟨putAb t.things (aboveP z), t.marks, t.many + 1⟩ := ⟨e3 _ _ gx2, e3 _ _ gD2, pd2.mono fun _ _ y => y.same e3, e3 _ _ gM2, g'.pm, g.ne⟩
        refine r_gname ?_
        refine (show tSeq (pIf K c) (pTail K) _ _ H3 from ?_)
        refine r_seq ?_
        unfold pIf
        walk_at "rd"
        refine r_is1 (Mem.tyM MM (Mem.Ins.same e3 hm2)) (Mem.kitL MM N m) ?_
        refine ⟨_, rfl, ?_⟩
        rw [hl]
        refine r_iteF (r_next ?_)
        refine (show pTail K _ _ _ from ok_pTail (mk := Sum.inl (t.many + 1)) hc g3 hv psl qsl fun ps2 qs2 H4 fr4 g4 => ?_)
        refine q ps2 qs2 H4 (fun b o n1 n2 n3 h => fr4 b o n2 n3 (e3 _ _ (fr2 b o n1 n2 n3 h))) ?_
        have e : putT t z m tg = ⟨putA (putAb t.things (aboveP z)) z y9, if y9.kind = "file" then putA t.marks z (Sum.inl (t.many + 1)) else dropA t.marks z, t.many + 1⟩ := by
          unfold putT Mem.thg'
          rw [hl, hy9]
          rfl
        rw [e]
        exact g4
      · have hl := Mem.lnkY hn
        obtain ⟨hk1, hk2⟩ := hlk hl
        cases lm9 : look t.marks tg with
        | none => rw [lm9] at hk2; cases hk2
        | some mk =>
        cases lt9 : look t.things tg with
        | none =>
          unfold kindA at hk1
          rw [lt9] at hk1
          exact absurd hk1 (by decide +kernel)
        | some yt =>
        have lt8 := putAb_look (a := aboveP z) lt9
        have g3 : TrIn K C H3 x dx D M ps' qs ⟨putAb t.things (aboveP z), t.marks, t.many + 1⟩ := ⟨e3 _ _ gx2, e3 _ _ gD2, pd2.mono fun _ _ y => y.same e3, e3 _ _ gM2, g'.pm, g.ne⟩
        rcases g3.pd.get (z := tg) with ⟨_, k2⟩ | ⟨v, y8, k1, k2, k3⟩
        · dsimp only at k2
          rw [lt8] at k2
          cases k2
        dsimp only at k2
        rw [lt8] at k2
        cases k2
        rcases g3.pm.get (z := tg) with ⟨_, j2⟩ | ⟨u, mk', j1, j2, rfl⟩
        · dsimp only at j2
          rw [lm9] at j2
          cases j2
        dsimp only at j2
        rw [lm9] at j2
        cases j2
        refine r_gname ?_
        refine (show tSeq (pIf K c) (pTail K) _ _ H3 from ?_)
        refine r_seq ?_
        unfold pIf
        walk_at "rd"
        refine r_is1 (Mem.tyM MM (Mem.Ins.same e3 hm2)) (Mem.kitL MM N m) ?_
        refine ⟨_, rfl, ?_⟩
        rw [hl]
        refine r_iteT ?_
        walk_at "rd"
        refine r_fldE g3.ob hc.cl hc.marks rfl ?_
        walk_at "rd"
        refine ⟨M, kV mk, rfl, .inl ⟨qs, Sum.inr tg, .inl g3.m, rfl, j1.symm⟩, ?_⟩
        walk_at "rd"
        refine r_fldE g3.ob hc.cl hc.things rfl ?_
        walk_at "rd"
        refine ⟨D, v, rfl, .inl ⟨ps', Sum.inr tg, .inl g3.d, rfl, k1.symm⟩, ?_⟩
        refine r_gname ?_
        refine (show pTail K _ _ _ from ok_pTail (mk := mk) hc g3 k3 psl qsl fun ps2 qs2 H4 fr4 g4 => ?_)
        refine q ps2 qs2 H4 (fun b o n1 n2 n3 h => fr4 b o n2 n3 (e3 _ _ (fr2 b o n1 n2 n3 h))) ?_
        have e : putT t z m tg = ⟨putA (putAb t.things (aboveP z)) z yt, if yt.kind = "file" then putA t.marks z mk else dropA t.marks z, t.many + 1⟩ := by
          unfold putT Mem.thg' thingP
          rw [hl, if_pos rfl, if_pos rfl, lt8, lm9]
          rfl
        rw [e]
        exact g4
end
abbrev s_refusal : Stmt := topS 62
abbrev N_refusal : List Str := ["tree", "member", "above"]
theorem sc_refusal : FnScope N_refusal ["tree", "member"] (defScope s_refusal) := ⟨rfl, rfl, rfl, by decide +kernel, rfl, by decide +kernel, by decide +kernel⟩
/-! ### unpacking -/
def Mem.kd : Mem → Str
  | .file .. => "file"
  | .sparse .. => "sparse"
  | .dir .. => "directory"
  | .sym .. => "symlink"
  | .lnk .. => "link"
def Mem.bits : Mem → Int
  | .file _ b _ _ => b
  | .sparse _ b _ _ _ => b
  | .dir _ b _ => b
  | .sym _ b _ _ => b
  | .lnk _ b _ _ => b
def Mem.tm : Mem → Int
  | .file _ _ t _ => t
  | .sparse _ _ t _ _ => t
  | .dir _ _ t => t
  | .sym _ _ t _ => t
  | .lnk _ _ t _ => t
theorem Mem.has {K : PySem.W.Frag} {c : Cs} {aM : Addr} {H : Hp} {x : Addr} {m : Mem} (M : MF K c aM) (h : m.Ins c H x) : ∃ C dx fs, H x = some (.ins C dx fs) ∧ CF K C aM m.kd ∧ fs.lookup ("KIND" : Str) = none ∧ fs.lookup ("name" : Str) = some (.str m.nm) ∧ fs.lookup ("mode" : Str) = some (.int m.bits) ∧ fs.lookup ("time" : Str) = some (.int m.tm) := by
  cases m with
  | file n b t ns => obtain ⟨dx, hx⟩ := h; exact ⟨_, dx, _, hx, M.fF, rfl, rfl, rfl, rfl⟩
  | sparse n b t z sp => obtain ⟨dx, p, hx, _⟩ := h; exact ⟨_, dx, _, hx, M.fS, rfl, rfl, rfl, rfl⟩
  | dir n b t => obtain ⟨dx, hx⟩ := h; exact ⟨_, dx, _, hx, M.fD, rfl, rfl, rfl, rfl⟩
  | sym n b t g => obtain ⟨dx, hx⟩ := h; exact ⟨_, dx, _, hx, M.fY, rfl, rfl, rfl, rfl⟩
  | lnk n b t g => obtain ⟨dx, hx⟩ := h; exact ⟨_, dx, _, hx, M.fL, rfl, rfl, rfl, rfl⟩
section
variable {P : Program} {w : World} {K : PySem.W.Frag} {mg : Str → Option Value} {base : Heap}
/-- the member may be unpacked there -/
structure FitM (t : Trd) (m : Mem) : Prop where
  path : pathB m.nm = true
  par : ∀ p ∈ aboveP m.nm, kindA t.things p = "" ∨ kindA t.things p = "directory"
  ref : refP t.things m.nm m m.tgt = ""
end
abbrev s_unpack : Stmt := topS 61
abbrev N_unpack : List Str := ["tree", "index", "member", "word"]
theorem sc_unpack : FnScope N_unpack ["tree", "index", "member"] (defScope s_unpack) := ⟨rfl, rfl, rfl, by decide +kernel, rfl, by decide +kernel, by decide +kernel⟩
/-! ### a member is unpacked -/
def putM (t : Trd) (m : Mem) : Trd := putT t m.nm m m.tgt
def putAll (t : Trd) (ms : List Mem) : Trd := ms.foldl putM t
theorem putAll_snoc {t : Trd} {ms : List Mem} {m : Mem} : putAll t (ms ++ [m]) = putM (putAll t ms) m := by
  unfold putAll
  rw [List.foldl_append]
  rfl
theorem refP_lnk {l : List (Str × Thg)} {z tg : Str} {m : Mem} (hl : m.isLnk = true) (h : refP l z m tg = "") : kindA l tg = "file" := by
  have hd : m.isDir = false := by cases m <;> first | rfl | cases hl
  unfold refP at h
  rw [hd, hl, Bool.true_and, if_neg (by decide)] at h
  by_cases h1 : kindA l z = "directory"
  · rw [if_pos h1] at h
    exact absurd h (by decide +kernel)
  · rw [if_neg h1] at h
    cases h2 : decide (kindA l tg = "file") with
    | true => exact of_decide_eq_true h2
    | false =>
      rw [h2, if_pos (by decide)] at h
      exact absurd h (by decide +kernel)
theorem put_keys {α : Type} {l : List (Str × α)} {z : Str} {x : α} : (putA l z x).map (·.1) = if z ∈ l.map (·.1) then l.map (·.1) else l.map (·.1) ++ [z] := by
  unfold putA
  have e : (l.any fun q => decide (q.1 = z)) = decide (z ∈ l.map (·.1)) := by
    rw [Bool.eq_iff_iff, List.any_eq_true, decide_eq_true_iff, List.mem_map]
    exact ⟨fun ⟨q, h1, h2⟩ => ⟨q, h1, of_decide_eq_true h2⟩, fun ⟨q, h1, h2⟩ => ⟨q, h1, decide_eq_true h2⟩⟩
  rw [e]
  by_cases h : z ∈ l.map (·.1)
  · rw [if_pos (decide_eq_true h), if_pos h, List.map_map]
    refine List.map_congr_left fun q _ => ?_
    show (if q.1 = z then (q.1, x) else q).1 = q.1
    split <;> rfl
  · rw [if_neg (by rw [decide_eq_true_iff]; exact h), if_neg h, List.map_append]
    rfl
theorem put_nd {α : Type} {l : List (Str × α)} {z : Str} {x : α} (h : (l.map (·.1)).Nodup) : ((putA l z x).map (·.1)).Nodup := by
  rw [put_keys]
  split
  · exact h
  · rename_i hz
    rw [List.nodup_append]
    exact ⟨h, by simp, fun a ha b hb e => hz (by rw [List.mem_singleton] at hb; rw [← hb, ← e]; exact ha)⟩
theorem putAb_nd : ∀ {a : List Str} {l : List (Str × Thg)}, (l.map (·.1)).Nodup → ((putAb l a).map (·.1)).Nodup
  | [], _, h => h
  | p :: r, l, h => by
    show ((putAb (if (look l p).isSome = true then l else putA l p (.dir 493 0)) r).map (·.1)).Nodup
    refine putAb_nd ?_
    split
    · exact h
    · exact put_nd h
theorem putAll_nd : ∀ {ms : List Mem} {t : Trd}, (t.things.map (·.1)).Nodup → ((putAll t ms).things.map (·.1)).Nodup
  | [], _, h => h
  | m :: r, t, h => putAll_nd (ms := r) (t := putM t m) (put_nd (putAb_nd h))
abbrev s_unpacked : Stmt := topS 60
abbrev N_unpacked : List Str := ["house", "members", "tree", "index", "member"]
theorem sc_unpacked : FnScope N_unpacked ["house", "members"] (defScope s_unpacked) := ⟨rfl, rfl, rfl, by decide +kernel, rfl, by decide +kernel, by decide +kernel⟩
/-! ### members are unpacked -/
theorem r_iEnum {K : PySem.W.Frag} {ta : TA} {σ : L2.St} {H : Hp} {R : It → Hp → Prop} (h : ta σ H fun vs H1 => ∃ a xs, vs = [.ref a] ∧ SqL K H1 a xs ∧ R (Ite K a) H1) : iEnum K ta σ H R := h
/-- the tree of a house -/
def trdOf (h : Hs) : Trd := ⟨h.things, h.firsts.map fun q => (q.1, Sum.inr q.2), 0⟩
def MemsAt (c : Cs) (H : Hp) (vs : List V) (ms : List Mem) : Prop := Paired (fun v m => ∃ y, v = V.ref y ∧ Mem.Ins c H y m) vs ms
/-! ### tables and houses, pure -/
section
variable {α : Type}
theorem look_mem {z : Str} : ∀ {l : List (Str × α)}, (look l z).isSome = true ↔ z ∈ l.map (·.1)
  | [] => by simp [look]
  | (y, x) :: l => by
    rw [look_cons, List.map_cons, List.mem_cons]
    by_cases h : y = z
    · rw [if_pos h]
      exact ⟨fun _ => .inl h.symm, fun _ => rfl⟩
    · rw [if_neg h, look_mem]
      exact ⟨.inr, fun g => g.elim (fun e => absurd e.symm h) id⟩
theorem keys_perm {l : List (Str × α)} {ks : List Str} (nd : (l.map (·.1)).Nodup) (nk : ks.Nodup) (h : ∀ p, (look l p).isSome = true ↔ p ∈ ks) : (l.map (·.1)).Perm ks :=
  (List.perm_ext_iff_of_nodup nd nk).mpr fun p => look_mem.symm.trans (h p)
theorem keys_len {l : List (Str × α)} {ks : List Str} (nd : (l.map (·.1)).Nodup) (nk : ks.Nodup) (h : ∀ p, (look l p).isSome = true ↔ p ∈ ks) : l.length = ks.length := by
  have := (keys_perm nd nk h).length_eq
  rw [List.length_map] at this
  exact this
end
theorem putAb_get {p : Str} : ∀ {a : List Str} {l : List (Str × Thg)}, look (putAb l a) p = if p ∈ a then some ((look l p).getD (.dir 493 0)) else look l p
  | [], l => by rw [if_neg (by simp)]; rfl
  | q :: a, l => by
    show look (putAb (if (look l q).isSome = true then l else putA l q (.dir 493 0)) a) p = _
    rw [putAb_get]
    by_cases e : p = q
    · subst e
      rw [if_pos List.mem_cons_self]
      cases h : look l p with
      | some x =>
        have e : look (if (some x).isSome = true then l else putA l p (.dir 493 0)) p = some x := h
        rw [e]
        split <;> rfl
      | none =>
        have e : look (if (none : Option Thg).isSome = true then l else putA l p (.dir 493 0)) p = some (.dir 493 0) := by
          rw [if_neg (by decide), look_put, if_pos rfl]
        rw [e]
        split <;> rfl
    · have h2 : look (if (look l q).isSome = true then l else putA l q (.dir 493 0)) p = look l p := by
        split
        · rfl
        · rw [look_put, if_neg e]
      rw [h2]
      by_cases g : p ∈ a
      · rw [if_pos g, if_pos (List.mem_cons_of_mem _ g)]
      · rw [if_neg g, if_neg (fun h => (List.mem_cons.mp h).elim e g)]
theorem putM_th {t : Trd} {m : Mem} {p : Str} : look (putM t m).things p = if p = m.nm then some (m.thg' (putAb t.things (aboveP m.nm)) m.tgt) else if p ∈ aboveP m.nm then some ((look t.things p).getD (.dir 493 0)) else look t.things p := by
  show look (putA _ _ _) p = _
  rw [look_put, putAb_get]
theorem putM_len {t : Trd} {m : Mem} : (putM t m).things.length ≤ t.things.length + (aboveP m.nm).length + 1 := by
  show (putA _ _ _).length ≤ _
  have h1 := put_len (l := putAb t.things (aboveP m.nm)) (z := m.nm) (x := m.thg' (putAb t.things (aboveP m.nm)) m.tgt)
  have h2 := putAb_len (a := aboveP m.nm) (l := t.things)
  omega
theorem drop_len {α : Type} {l : List (Str × α)} {z : Str} : (dropA l z).length ≤ l.length := List.length_filter_le _ _
theorem putM_mlen {t : Trd} {m : Mem} : (putM t m).marks.length ≤ t.marks.length + 1 := by
  show (if _ then _ else _ : List (Str × Key)).length ≤ _
  split
  · exact put_len
  · exact Nat.le_succ_of_le drop_len
/-- what a mark says of a path -/
theorem putM_mk {t : Trd} {m : Mem} {p : Str} : look (putM t m).marks p = if p = m.nm then (if (m.thg' (putAb t.things (aboveP m.nm)) m.tgt).kind = "file" then some (if m.isLnk = true then (look t.marks m.tgt).getD (Sum.inl 0) else Sum.inl (t.many + 1)) else none) else look t.marks p := by
  show look (if _ then _ else _ : List (Str × Key)) p = _
  by_cases h : (m.thg' (putAb t.things (aboveP m.nm)) m.tgt).kind = "file"
  · rw [if_pos h, look_put]
    by_cases e : p = m.nm
    · rw [if_pos e, if_pos e, if_pos h]
    · rw [if_neg e, if_neg e]
  · rw [if_neg h, look_drop]
    by_cases e : p = m.nm
    · rw [if_pos e, if_pos e, if_neg h]
    · rw [if_neg e, if_neg e]
/-! ### the house that comes out -/
/-! ### sorted texts -/
def leS (a b : Str) : Prop := a.cps.toList ≤ b.cps.toList
theorem leS_of {a b : Str} (h : (!Spec.ltCps b.cps.toList a.cps.toList) = true) : leS a b := by
  rw [Bool.not_eq_true', PyProof.Rows.ltCps_eq, decide_eq_false_iff_not] at h
  exact h
theorem rising_le : ∀ {l : List Str} {p : Str}, risingS p l = true → l.Pairwise leS ∧ ∀ x ∈ l, leS p x
  | [], _, _ => ⟨.nil, fun _ h => nomatch h⟩
  | x :: l, p, h => by
    have h : (!Spec.ltCps x.cps.toList p.cps.toList && risingS x l) = true := h
    rw [Bool.and_eq_true] at h
    have h1 := leS_of h.1
    have ⟨h2, h3⟩ := rising_le h.2
    refine ⟨.cons h3 h2, fun y hy => ?_⟩
    rcases List.mem_cons.mp hy with e | hy
    · rw [e]; exact h1
    · exact List.le_trans h1 (h3 y hy)
theorem sorted_le {l : List Str} (h : sortedS l = true) : l.Pairwise leS := by
  cases l with
  | nil => exact .nil
  | cons x l => exact .cons (rising_le h).2 (rising_le h).1
theorem leS_eq {a b : Str} (h : leS a b) (g : leS b a) : a = b := TL.ext_tl (List.le_antisymm h g)
/-- what is ascending is one list -/
theorem sorted_one : ∀ {xs ys : List Str}, xs.Pairwise leS → ys.Pairwise leS → xs.Perm ys → xs = ys
  | [], ys, _, _, h => (List.nil_perm.mp h).symm
  | x :: xs, [], _, _, h => absurd (List.perm_nil.mp h) (by simp)
  | x :: xs, y :: ys, hx, hy, h => by
    have e : x = y := by
      rcases List.mem_cons.mp (h.mem_iff.mp List.mem_cons_self) with e | h1
      · exact e
      rcases List.mem_cons.mp (h.mem_iff.mpr (List.mem_cons_self (a := y))) with e | h2
      · exact e.symm
      exact leS_eq ((List.pairwise_cons.mp hx).1 y h2) ((List.pairwise_cons.mp hy).1 x h1)
    subst e
    rw [sorted_one (List.pairwise_cons.mp hx).2 (List.pairwise_cons.mp hy).2 ((List.perm_cons x).mp h)]
/-! ### the law's own paths above; values compared -/
def DByt : Eqv := fun x y _ => ∃ b, x = .byt b ∧ y = .byt b
theorem mon_byt : Mon DByt := fun _ _ _ _ _ d => d
theorem eqG_byt {X : Cx} : EqG X 0 DByt := by
  intro A pins s σ H x y u v sb I rx ry ⟨b, ex, ey⟩
  subst ex ey
  obtain ⟨t1, rfl⟩ := (show ∃ t, u = Value.bytes b t from rx)
  obtain ⟨t2, rfl⟩ := (show ∃ t, v = Value.bytes b t from ry)
  exact PySem.W.eqBool_bytes ⟨decide_eq_true rfl, H, I, fun _ _ h => h⟩
def DFB : Eqv := fun x y H => DFlat x y H ∨ DByt x y H
theorem mon_fb : Mon DFB := mon_flat.or mon_byt
theorem eqG_fb {X : Cx} : EqG X 0 DFB := eqG_flat.or eqG_byt
theorem op_neThK {X : Cx} (K : PySem.W.Frag) (hr : Room 1 X.A) (h : X.K = K := by rfl) : OpR X (compareOp .NotEq) (rNeG (DTup K DFB)) := h ▸ op_neGT mon_fb eqG_fb hr
theorem op_neStrK {X : Cx} (K : PySem.W.Frag) (hr : Room 1 X.A) (h : X.K = K := by rfl) : OpR X (compareOp .NotEq) (rNeG (DList DFlat)) := op_neGL mon_flat eqG_flat hr
theorem strs_eq {H : Hp} {a b : Addr} {zs : List Str} (h : H a = some (.lst (zs.map V.str))) (g : H b = some (.lst (zs.map V.str))) : DList DFlat (.ref a) (.ref b) H := by
  refine ⟨a, b, _, _, rfl, rfl, h, g, rfl, fun i p q hp hq => ?_⟩
  rw [hp] at hq
  cases hq
  rw [List.getElem?_map] at hp
  cases e : zs[i]? with
  | none => rw [e] at hp; cases hp
  | some z =>
    rw [e] at hp
    cases hp
    exact ⟨rfl, rfl, by simp [eqV]⟩
def cr_sortedK {X : Cx} (K : PySem.W.Frag) (h : X.K = K := by rfl) : CallR X (.builtin "sorted") (rSortedS K) := h ▸ cr_sortedS
theorem r_sortedS {K : PySem.W.Frag} {H : Hp} {Q : VK} {a : Addr} {xs : List Str} (hs : SqL K H a (xs.map V.str)) (hl : xs.length < 64) (q : ∀ (ys : List Str) (p : Addr), ys.Perm xs → sortedS ys = true → H p = none → Q (.ref p) (upd H p (.lst (ys.map V.str)))) : rSortedS K [.ref a] H Q := ⟨a, xs, rfl, hs, hl, q⟩
/-! ### members made without keywords; the law's state -/
section
variable {K : PySem.W.Frag} {c : Cs} {σ : L2.St} {H : Hp} {Q : VK}
def tkF (c : Cs) (ta : TA) : TE := tMakS (fun vs zs H Q => zs = [] ∧ ∀ (E : XK), spFileI c.F (vs ++ [V.int 420, V.int 0]) H Q E) ([] : List Str).length c.F ta tNil
def tkD (c : Cs) (ta : TA) : TE := tMakS (fun vs zs H Q => zs = [] ∧ ∀ (E : XK), spDirI c.D (vs ++ [V.int 493, V.int 0]) H Q E) ([] : List Str).length c.D ta tNil
def tkL (c : Cs) (ta : TA) : TE := tMakS (fun vs zs H Q => zs = [] ∧ ∀ (E : XK), spSymI c.L (vs ++ [V.int 420, V.int 0]) H Q E) ([] : List Str).length c.L ta tNil
theorem byteArr_size (ns : List Int) : (byteArr ns).size = ns.length := by simp [byteArr]
theorem r_tkF {ta : TA} {z : Str} {ns : List Int} (ok : (Mem.file z 420 0 ns).Ok) (hta : ∀ Q' : List V → Hp → Prop, (∀ H1, Same H H1 → Q' [.str z, .byt (byteArr ns)] H1) → ta σ H Q') (k : ∀ x H', H x = none → Same H H' → (Mem.file z 420 0 ns).Ins c H' x → Q (.ref x) H') : tkF c ta σ H Q :=
  r_maks (hta _ fun H1 e1 => (r_nil ⟨rfl, fun x dx hx hdx ne => ⟨rfl, fun E => ⟨x, dx, z, byteArr ns, 420, 0, rfl, upd_same, ok.1, by rw [byteArr_size]; exact ok.2.1, fun H' fr hx' => ⟨rfl, k x H' (e1.free hx) (e1.trans (frame_same hx hdx fr)) ⟨dx, hx'⟩⟩⟩⟩⟩))
theorem r_tkD {ta : TA} {z : Str} (ok : (Mem.dir z 493 0).Ok) (hta : ∀ Q' : List V → Hp → Prop, Q' [.str z] H → ta σ H Q') (k : ∀ x H', H x = none → Same H H' → (Mem.dir z 493 0).Ins c H' x → Q (.ref x) H') : tkD c ta σ H Q :=
  r_maks (hta _ (r_nil ⟨rfl, fun x dx hx hdx ne => ⟨rfl, fun E => ⟨x, dx, z, 493, 0, rfl, upd_same, ok, fun H' fr hx' => ⟨rfl, k x H' hx (frame_same hx hdx fr) ⟨dx, hx'⟩⟩⟩⟩⟩))
theorem r_tkL {ta : TA} {z g : Str} (ok : (Mem.lnk z 420 0 g).Ok) (hta : ∀ Q' : List V → Hp → Prop, Q' [.str z, .str g] H → ta σ H Q') (k : ∀ x H', H x = none → Same H H' → (Mem.lnk z 420 0 g).Ins c H' x → Q (.ref x) H') : tkL c ta σ H Q :=
  r_maks (hta _ (r_nil ⟨rfl, fun x dx hx hdx ne => ⟨rfl, fun E => ⟨x, dx, z, g, 420, 0, rfl, upd_same, ok.1, ok.2, fun H' fr hx' => ⟨rfl, k x H' hx (frame_same hx hdx fr) ⟨dx, hx'⟩⟩⟩⟩⟩))
end
def But2 (a b : Addr) (H H' : Hp) : Prop := ∀ x o, x ≠ a → x ≠ b → H x = some o → H' x = some o
theorem But2.refl (a b : Addr) (H : Hp) : But2 a b H H := fun _ _ _ _ e => e
theorem But2.trans {a b : Addr} {H H' H2 : Hp} (h : But2 a b H H') (g : But2 a b H' H2) : But2 a b H H2 := fun x o n m e => g x o n m (h x o n m e)
theorem But2.l {a b : Addr} {H H' : Hp} (h : But a H H') : But2 a b H H' := fun x o n _ e => h x o n e
theorem But2.same {a b : Addr} {H H' : Hp} (h : Same H H') : But2 a b H H' := fun x o _ _ e => h x o e
theorem But2.put {a b : Addr} {H : Hp} {o : HO} : But2 a b H (upd H b o) := fun x o' _ m e => by rw [upd_ne m]; exact e
theorem But2.new {a b p : Addr} {H H' : Hp} {o : HO} (h : But2 a b H H') (hp : H p = none) : But2 a b H (upd H' p o) := fun x o' n m e => by rw [upd_ne (ne_of_none e hp)]; exact h x o' n m e
theorem HsTF.keep {K : PySem.W.Frag} {C a b x T F : Addr} {H H' : Hp} {h : Hs} (e : But2 a b H H') (ha : ∃ xs, H a = some (.lst xs)) (hb : ∃ ps, H b = some (.dK ps)) (nT : T ≠ b) (nF : F ≠ b) (g : HsTF K C H x T F h) : HsTF K C H' x T F h := by
  obtain ⟨dx, R, vs, ps, qs, g⟩ := g
  obtain ⟨xs, ha⟩ := ha
  obtain ⟨zs, hb⟩ := hb
  have tk : TK H H' := ⟨fun p ys h3 => e _ _ (fun e3 => by rw [e3, ha] at h3; cases h3) (fun e3 => by rw [e3, hb] at h3; cases h3) h3, fun p o ys h3 => e _ _ (fun e3 => by rw [e3, ha] at h3; cases h3) (fun e3 => by rw [e3, hb] at h3; cases h3) h3⟩
  have nl : ∀ {p o}, H p = some o → (∀ xs, o ≠ .lst xs) → p ≠ a := fun h3 n e3 => by rw [e3, ha] at h3; exact n _ (Option.some.inj h3).symm
  have nd : ∀ {p o}, H p = some o → (∀ xs, o ≠ .dK xs) → p ≠ b := fun h3 n e3 => by rw [e3, hb] at h3; exact n _ (Option.some.inj h3).symm
  exact ⟨dx, R, vs, ps, qs, e _ _ (nl g.ob fun _ => nofun) (nd g.ob fun _ => nofun) g.ob, e _ _ (nl g.r fun _ => nofun) (nd g.r fun _ => nofun) g.r, Paired.mapP g.pr fun _ _ y => y.tk tk, e _ _ (nl g.t fun _ => nofun) nT g.t, g.pt.mono fun _ _ y => y.tk tk, e _ _ (nl g.f fun _ => nofun) nF g.f, g.pf, g.ne⟩
/-! ### an own exception made by a call with keywords: __new__, then the own __init__ -/
namespace ExK
open PySem PySem.W PySem.Calls PyProof.Rows PySem.HandSPX
open Builtin Builtin.ObjectAttr
section
variable {M : Model} {A : Around} {E : Value → Shared → Prop} {h : Heap} {g : Array GenState} {d : Drawn} {t : Nat} {os : OsState}
variable {nm q : Str} {C N : Addr} {bs bm bmB : List Value} {hdct : Bool} {sn : List Str} {sub : List Value} {ab : Bool} {col : Option Bool} {dd : Option Addr} {k0 k1 k2 k3 k5 : Option Value} {B newId initId : String}
theorem check_new_kw (F : ExcBaseFacts B newId initId bmB) (hT : bm.contains (.type B) = true ∧ bm.contains (.type "AttributeError") = false ∧ bm.contains (.type "NameError") = false) {rest : List Value} {kw : List (Str × Value)} {Q : Unit → Shared → Prop}
    (hC : h.get? C = some (excClassObj nm q C N bs bm hdct sn sub ab col dd k0 k1 k2 k3 k5 newId)) (hq : Q () ⟨h, g, d, t, os⟩) : wpAny M A (checkBuiltinCall newId ⟨.ref C :: rest, kw⟩) Q E ⟨h, g, d, t, os⟩ := by
  have hcont : (Value.ref C :: bm).contains (.type B) = true := by rw [List.contains_cons, hT.1, Bool.or_true]
  have hstar := F.noStar
  simp only [checkBuiltinCall, F.newKind, F.newSplit, F.newRow]
  repeat (first | refine wpAny_loadPart_at hC ?_ | (refine wpAny_isSubtype_exc hC ?_; rw [hcont]) | refine wpAny_staticBase_exc hC ?_ | refine wpAny_madeBy_exc hC ?_ | simp only [bne_self_eq_false, Bool.false_eq_true, if_false] | wp_step)
  exact hq
end
section
variable {prog : Program} {w : World} {A : Around} {E : Value → Shared → Prop} {R : Result → Shared → Prop} {h : Heap} {g : Array GenState} {d : Drawn} {t : Nat} {os : OsState}
variable {nm q : Str} {C N : Addr} {bs bm bmB : List Value} {hdct : Bool} {sn : List Str} {sub : List Value} {ab : Bool} {col : Option Bool} {dd : Option Addr} {k0 k1 k2 k3 k5 : Option Value} {B newId initId : String}
theorem new_kw (F : ExcBaseFacts B newId initId bmB) (hT : bm.contains (.type B) = true ∧ bm.contains (.type "AttributeError") = false ∧ bm.contains (.type "NameError") = false) {rest : List Value} {kw : List (Str × Value)}
    (hC : h.get? C = some (excClassObj nm q C N bs bm hdct sn sub ab col dd k0 k1 k2 k3 k5 newId))
    (hq : R (.ok (.ret (.ref (h.objs.size + 1)))) ⟨(h.push { cls := .type "tuple", data := .seq rest.toArray }).push
      { cls := .ref C, data := .fields #[.ref h.objs.size, .none, .none, .none, .bool false, .none] }, g, d, t, os⟩) (hrest : rest.length ≤ sizeLine) :
    codeAny (model prog w) A (.builtin newId ⟨.ref C :: rest, kw⟩) R ⟨h, g, d, t, os⟩ := by
  have hends := F.ends
  have hcB : (Value.ref C :: bm).contains (.type B) = true := by rw [List.contains_cons, hT.1, Bool.or_true]
  have hcA : (Value.ref C :: bm).contains (.type "AttributeError") = false := by rw [List.contains_cons, hT.2.1]; rfl
  have hcN : (Value.ref C :: bm).contains (.type "NameError") = false := by rw [List.contains_cons, hT.2.2]; rfl
  refine codeAny_builtinAt F.entry ?_
  unfold Builtin.«BaseException.__new__»
  refine PySem.wpAt_bind ?_
  show PySem.wpAt _ _ _ (stack >>= _) _ _ _
  refine PySem.wpAt_bind (PySem.wpAt_stack fun p below => PySem.wpAt_of_wpAny ?_)
  wp_walk
  refine PySem.wpAt_of_wpAny ?_
  rw [F.owner]
  repeat (first | with_reducible refine wpAny_madeHere_exc F.canon hC ?_ | with_reducible refine wpAny_loadPart_at hC ?_ | (with_reducible refine wpAny_isSubtype_exc hC ?_; first | rw [hcB] | rw [hcA] | rw [hcN]) | wp_step)
  show R _ _
  rw [Heap.size_push]
  exact hq
theorem type_call_kw (F : ExcBaseFacts B newId initId bmB) (hT : bm.contains (.type B) = true ∧ bm.contains (.type "AttributeError") = false ∧ bm.contains (.type "NameError") = false) {rest : List Value} {kw : List (Str × Value)} {fI : Addr} {Q : Fin → Shared → Prop}
    (hC : h.get? C = some (excClassObj nm q C N bs bm hdct sn sub ab col dd k0 k1 k2 k3 k5 newId))
    (hi : W.Looks (model prog w) h (typeLookup (.ref C) "__init__") (some (.ref fI))) (hb : ∀ self, W.Looks (model prog w) h (bindSpecial (.ref fI) self) (.ref fI, [self])) (hrest : rest.length ≤ sizeLine)
    (hq : codeAny (model prog w) A (.call (.ref fI) ⟨.ref (h.objs.size + 1) :: rest, kw⟩)
      (fun r s' => match r with | .ok (.ret v) => v = .none ∧ Q (.done (.ret (.ref (h.objs.size + 1)))) s' | .ok _ => False | .error e => E e s')
      ⟨(h.push (W.kdv_tup rest)).push (excO C h.objs.size), g, d, t, os⟩) :
    wpAny (model prog w) A (Builtin.«type.__call__» ⟨.ref C :: rest, kw⟩) Q E ⟨h, g, d, t, os⟩ := by
  repeat (first | with_reducible refine wpAny_loadPart_at hC ?_ | with_reducible refine wpAny_madeBy_exc hC ?_ | wp_step)
  refine codeAny_call_builtin_code (Code.quiet_builtin _ F.quiet) (check_new_kw F hT hC ?_)
  refine new_kw F hT hC ?_ hrest
  show wpAny _ _ _ _ _ _
  have k : ∀ b o, h.get? b = some o → ((h.push (W.kdv_tup rest)).push (excO C h.objs.size)).get? b = some o := fun b o e => Heap.get?_push_of_some _ (Heap.get?_push_of_some _ e)
  have hC₁ := k _ _ hC
  have hget : ((h.push (W.kdv_tup rest)).push (excO C h.objs.size)).get? (h.objs.size + 1) = some (excO C h.objs.size) := by heap_get
  have hcC : (Value.ref C :: bm).contains (.ref C) = true := by simp
  have i1 := hi.keeps k
  have b1 := (hb (.ref (h.objs.size + 1))).keeps k
  unfold isInstance
  repeat (first | with_reducible refine wpAny_loadPart_at hget ?_ | (with_reducible refine wpAny_isSubtype_exc hC₁ ?_; rw [hcC]) | wp_step)
  show wpAny _ _ (typeLookup (.ref C) _) _ _ _
  refine i1.at ?_
  refine wpAny_holding (wpAny_bind (b1.at ?_))
  refine wpAny_bind (wpAny_call (codeAny_mono hq fun r s' z => ?_))
  rcases r with e | (v | _ | _ | _) <;> first | exact z | exact z.elim | skip
  obtain ⟨rfl, z⟩ := z
  first
    | exact wpAny_pure (wpAny_pure z)
    | (wp_walk; exact z)
theorem call_kw (F : ExcBaseFacts B newId initId bmB) (hT : bm.contains (.type B) = true ∧ bm.contains (.type "AttributeError") = false ∧ bm.contains (.type "NameError") = false) {rest : List Value} {kw : List (Str × Value)} {fI : Addr}
    (hC : h.get? C = some (excClassObj nm q C N bs bm hdct sn sub ab col dd k0 k1 k2 k3 k5 newId))
    (hi : W.Looks (model prog w) h (typeLookup (.ref C) "__init__") (some (.ref fI))) (hb : ∀ self, W.Looks (model prog w) h (bindSpecial (.ref fI) self) (.ref fI, [self])) (hrest : rest.length ≤ sizeLine)
    (hq : codeAny (model prog w) (A.under (.builtin "type.__call__" ⟨.ref C :: rest, kw⟩)) (.call (.ref fI) ⟨.ref (h.objs.size + 1) :: rest, kw⟩) (W.InitBack (h.objs.size + 1) R)
      ⟨(h.push (W.kdv_tup rest)).push (excO C h.objs.size), g, d, t, os⟩) :
    codeAny (model prog w) A (.call (.ref C) ⟨rest, kw⟩) R ⟨h, g, d, t, os⟩ := by
  have f1 := tc_lookup
  have f2 := tc_bind (.ref C)
  have hTy : (⟨h, g, d, t, os⟩ : Shared).TypeIs (.ref C) "type" := ⟨_, hC, rfl⟩
  refine codeAny_of_tree ?_
  show wpAny _ _ (callAny (.ref C) _) _ _ _
  repeat (any_goals (first | assumption | with_reducible refine wpAny_loadPart_at hC ?_ | wp_step))
  refine ⟨rfl, ?_⟩
  refine codeAny_call_builtin_at (Code.quiet_builtin _ (by decide +kernel)) entry_typeCall (wpAny_check_type_call_sub hC (type_call_kw F hT hC hi hb hrest ?_))
  refine codeAny_mono hq fun r s' z => ?_
  rcases r with e | (v | _ | _ | _) <;> exact z
end
end ExK
/-! ### storing into an exception -/
namespace ExK
open PySem PySem.W PySem.Calls PySem.HandSPX
open Builtin Builtin.ObjectAttr
section
variable {prog : Program} {w : World} {A : Around} {E : Value → Shared → Prop} {R : Result → Shared → Prop} {hp : Heap} {g : Array GenState} {d : Drawn} {t : Nat} {os : OsState}
theorem taker_none {K : PySem.W.Frag} {C : Addr} {f : Str} (h : PySem.W.findIn K (.ref C) f = some none) : PySem.W.takerIn K C f = some none := by
  unfold PySem.W.takerIn
  rw [h]
  rfl
theorem exc_osaG {K : PySem.W.Frag} {name : Str} {tk : Tok} {v : Value} {x C : Addr} {fv : Array Value} {B : String} {bmB : List Value} (SF : StoreFacts B bmB "object.__setattr__" "object")
    (X : K.In hp) (hx : hp.get? x = some { cls := .ref C, data := .fields fv }) (hov : PySem.W.excOver K C bmB = true) (hh : PySem.W.hasDictIn K C = true) (ha : PySem.W.findIn K (.ref C) name = some none)
    (hq : ∀ h' tk' dx, (∀ b o, b ≠ x → hp.get? b = some o → h'.get? b = some o) → hp.objs.size ≤ dx → dx ≠ x → h'.get? x = some { cls := .ref C, dict := some dx, data := .fields fv } →
      h'.Ns1 dx (fun y => if y = name then some v else none) → R (.ok (.ret .none)) ⟨h', g, d, tk', os⟩) :
    codeAny (model prog w) A (.call (.builtin "object.__setattr__") ⟨[.ref x, .str name tk, v], []⟩) R ⟨hp, g, d, t, os⟩ := by
  obtain ⟨cd, hcd, hh'⟩ := any_some hh
  have I : PySem.W.InstAt hp x { cls := .ref C, data := .fields fv } C none := ⟨hx, rfl, rfl, trivial⟩
  have hxs : x ≠ hp.objs.size := Nat.ne_of_lt (Heap.lt_size hx)
  have hcls : PySem.W.Looks (model prog w) hp (classData C) cd := PySem.W.looks_clsIn X hcd
  refine osa_openX (r := none) SF X I hov (taker_none ha) (fun b => ?_)
  show wpAny _ _ (storeInOwnDict (.ref x) (.ref C) (.str name tk) name v b) _ _ _
  obtain ⟨nm, bs, mro, ns, qn, hd, sn, sb, ab, col, del⟩ := cd
  dsimp only at hh'
  subst hh'
  unfold storeInOwnDict ownDictForStores
  repeat (first | with_reducible refine store_in_new ?_ ?_ | with_reducible refine wpAny_loadPart_at hx ?_ | with_reducible refine hcls.at ?_ | wp_step)
  · exact ⟨_, #[], _, (Heap.get?_update_ne _ _ _ _ hxs.symm).trans (Heap.get?_push_at rfl rfl), rfl, fun e he => absurd he (by simp), fun _ => rfl⟩
  · intro h' tk' hn' hs
    have hx₁ : (hp.push { cls := .type "dict", data := .dict #[] }).get? x = some { cls := .ref C, data := .fields fv } := Heap.get?_push_of_some _ hx
    refine hq h' tk' hp.objs.size (fun b o hb ho => ?_) (Nat.le_refl _) hxs.symm ?_ hn'
    · exact (hs.2 b (Nat.ne_of_lt (Heap.lt_size ho))).trans ((Heap.get?_update_ne _ _ _ _ hb).trans (Heap.get?_push_of_some _ ho))
    · exact (hs.2 x hxs).trans (Heap.get?_update_self _ hx₁ rfl)
theorem exc_oldG {K : PySem.W.Frag} {name : Str} {tk : Tok} {v : Value} {x C dx : Addr} {fv : Array Value} {m0 : Str → Option Value} {nl : List Str} {B : String} {bmB : List Value} (SF : StoreFacts B bmB "object.__setattr__" "object")
    (X : K.In hp) (hx : hp.get? x = some { cls := .ref C, dict := some dx, data := .fields fv }) (hns : hp.Ns1 dx m0) (hw : Within m0 nl) (hz : nl.length ≤ 1000) (hov : PySem.W.excOver K C bmB = true) (hh : PySem.W.hasDictIn K C = true)
    (ha : PySem.W.findIn K (.ref C) name = some none)
    (hq : ∀ h' tk', (∀ b o, b ≠ dx → hp.get? b = some o → h'.get? b = some o) → h'.Ns1 dx (fun y => if y = name then some v else m0 y) → R (.ok (.ret .none)) ⟨h', g, d, tk', os⟩) :
    codeAny (model prog w) A (.call (.builtin "object.__setattr__") ⟨[.ref x, .str name tk, v], []⟩) R ⟨hp, g, d, t, os⟩ := by
  obtain ⟨cd, hcd, hh'⟩ := any_some hh
  obtain ⟨oD, esD, epD, hoD, hdD, _⟩ := hns.count hw
  have I : PySem.W.InstAt hp x { cls := .ref C, dict := some dx, data := .fields fv } C (some oD) := ⟨hx, rfl, rfl, hoD⟩
  have hcls : PySem.W.Looks (model prog w) hp (classData C) cd := PySem.W.looks_clsIn X hcd
  refine osa_openX (r := none) SF X I hov (taker_none ha) (fun b => ?_)
  show wpAny _ _ (storeInOwnDict (.ref x) (.ref C) (.str name tk) name v b) _ _ _
  obtain ⟨nm, bs, mro, ns, qn, hd, sn, sb, ab, col, del⟩ := cd
  dsimp only at hh'
  subst hh'
  unfold storeInOwnDict ownDictForStores
  repeat (first | with_reducible refine PySem.OEX.store_in_old hns hw hz ?_ | with_reducible refine wpAny_loadPart_at hx ?_ | with_reducible refine hcls.at ?_ | wp_step)
  intro h' tk' hn' hs
  exact hq h' tk' (fun b o hb ho => (hs.2 b hb).trans ho) hn'
end
end ExK
/-! ### own exceptions as values -/
structure ExG (K : PySem.W.Frag) (C fI : Addr) : Prop where
  b : ∃ (B newId initId : String) (bmA : List Value) (B' : String) (bmB : List Value), PySem.ExcBaseFacts B newId initId bmA ∧ PySem.StoreFacts B' bmB "object.__setattr__" "object" ∧ PySem.W.excInitIn K C bmB newId = true ∧ PySem.W.excOver K C bmB = true ∧
    bmB.contains (.type B) = true ∧ bmB.contains (.type "AttributeError") = false ∧ bmB.contains (.type "NameError") = false
  sa : PySem.W.findIn K (.ref C) "__setattr__" = some (some (.builtin "object.__setattr__"))
  iC : PySem.W.findIn K (.ref C) "__init__" = some (some (.ref fI))
  tI : PySem.W.typeIn K (.ref fI) = some (.type "function")
  kC : PySem.W.keepIn K (.ref C) = true
  ga : PySem.W.findIn K (.ref C) "__getattribute__" = some (some (.builtin "BaseException.__getattribute__"))
  gg : PySem.W.findIn K (.ref C) "__getattr__" = some none
  exC : PySem.W.subIn K (.ref C) (.type "BaseException") = some true
  hd : PySem.W.hasDictIn K C = true
  ha : PySem.W.findIn K (.ref C) "__class__" = some (some (.builtin "object.__class__"))
  hn : PySem.W.specialIn K (.builtin "object.__class__") "__get__" = some (some (.builtin "getset_descriptor.__get__"))
  ht : PySem.W.takesIn K (.builtin "object.__class__") = some true
  hm : PySem.W.mroIn K C (.type "object") = some true
section
variable {X : Cx} {pins : List (Addr × Obj)} {σ : L2.St} {H : Hp} {s : Shared} {a C fI dx : Addr} {f : Str} {y : V} {u : Value} {fs : List (Str × V)} {Q : Unit → Shared → Prop} {E : Value → Shared → Prop} {A : Around}
theorem ost_newG (T : ExG X.K C fI) (I : Inv X pins σ H s) (e : H a = some (exo a C none)) (hno : PySem.W.findIn X.K (.ref C) f = some none) (ry : RelV y u)
    (h : ∀ dx s', H dx = none → dx ≠ a → Inv X pins σ (upd (upd H dx (exd dx [(f, y)])) a (exo a C (some dx))) s' → Q () s') : wpAny (model X.prog X.w) A (setAttr (.ref a) f u) Q E s := by
  obtain ⟨B, newId, initId, bmA, B', bmB, FB, SF, hin, hov, _⟩ := T.b
  obtain ⟨t1, ho⟩ := exo_at I.hok e
  obtain ⟨hp, g, d, t, os⟩ := s
  refine PySem.W.set_plain I.kIn (ox := { cls := .ref C, dict := none, data := .fields #[.ref t1, .none, .none, .none, .bool false, .none] }) (od := none) ⟨ho, rfl, rfl, trivial⟩ T.sa ?_
  refine ExK.exc_osaG SF I.kIn ho hov T.hd hno (fun h' tk' dx k dn dne hx hn => ?_)
  have hnd : H dx = none := I.hok.fresh dn
  have nd : ∀ {b : Addr} {o : Obj}, hp.get? b = some o → b ≠ dx := fun {b o} q => Nat.ne_of_lt (Nat.lt_of_lt_of_le (Heap.lt_size q) dn)
  have na : ∀ {b : Addr}, H b = none → b ≠ a := fun {b} n z => by
    rw [z, e] at n
    cases n
  have Un1 : Un X.fs [] H (upd (upd H dx (exd dx [(f, y)])) a (exo a C (some dx))) hp h' := {
    keep := fun b o q n _ _ => k b o (na n) q
    slot := fun b o q n _ _ => ⟨o.slots, k b o (na n) q⟩
    free := fun b o q n _ => by rw [upd_ne (na n), upd_ne (nd q)]; exact n
    there := fun b o q _ => by
      by_cases hb : b = a
      · exact ⟨_, by rw [hb]; exact hx⟩
      · exact ⟨o, k b o hb q⟩
    tups := fun b xs q => by rw [upd_ne (at_ne e q exo_tup), upd_ne (ne_of_none q hnd)]; exact q
    frzs := fun b o v q => by rw [upd_ne (at_ne e q exo_frz), upd_ne (ne_of_none q hnd)]; exact q
    tbls := fun b ps q => ⟨#[], by rw [upd_ne (at_ne e q exo_tbl), upd_ne (ne_of_none q hnd), q]; simp⟩ }
  refine h dx _ hnd dne (I.un (t' := tk') Un1 fun b o q => ?_)
  by_cases hb : b = a
  · subst hb
    rw [upd_same] at q
    cases q
    exact exo_ok hx
  · rw [upd_ne hb] at q
    by_cases hd : b = dx
    · subst hd
      rw [upd_same] at q
      cases q
      exact exd_ok hn (relO_put (fs := []) ry fun g => True.intro)
    · rw [upd_ne hd] at q
      exact (I.hok b o q).stay (fun c v hc z => k c v (by
          rcases hc with hc | hc
          · rw [hc]
            exact hb
          · exact at_ne e hc exo_own) z)
        (fun c hc => by rw [upd_ne (at_ne e hc exo_own), upd_ne (ne_of_none hc hnd)]; exact hc) (fun c xs hc => by rw [upd_ne (at_ne e hc exo_tup), upd_ne (ne_of_none hc hnd)]; exact hc)
theorem ost_oldG (T : ExG X.K C fI) (I : Inv X pins σ H s) (e : H a = some (exo a C (some dx))) (ed : H dx = some (exd dx fs)) (hl : fs.length ≤ 900) (hno : PySem.W.findIn X.K (.ref C) f = some none) (ry : RelV y u)
    (h : ∀ s', Inv X pins σ (upd H dx (exd dx ((f, y) :: fs))) s' → Q () s') : wpAny (model X.prog X.w) A (setAttr (.ref a) f u) Q E s := by
  obtain ⟨B, newId, initId, bmA, B', bmB, FB, SF, hin, hov, _⟩ := T.b
  obtain ⟨t1, ho⟩ := exo_at I.hok e
  obtain ⟨mA, hns, rel⟩ := exd_at I.hok ed
  have hw := within_of rel
  obtain ⟨hp, g, d, t, os⟩ := s
  obtain ⟨oD, _, _, hoD, _, _⟩ := hns.count hw
  refine PySem.W.set_plain I.kIn (ox := { cls := .ref C, dict := some dx, data := .fields #[.ref t1, .none, .none, .none, .bool false, .none] }) (od := some oD) ⟨ho, rfl, rfl, hoD⟩ T.sa ?_
  refine ExK.exc_oldG SF I.kIn ho hns hw (by rw [List.length_map]; omega) hov T.hd hno (fun h' tk' k hn => ?_)
  have hd : ∃ o, h'.get? dx = some o := by
    obtain ⟨o, _, _, e', _⟩ := hn
    exact ⟨o, e'⟩
  exact h _ (I.write (t' := tk') (x := dx) (e := dx) (o := exd dx ((f, y) :: fs)) (by rw [ed]; exact True.intro) (.inl rfl) k hd (exd_ok hn (relO_put ry rel)))
end
/-! ### an own exception made, its fields stored and read, its kind asked -/
def tOstG (K : PySem.W.Frag) (f : Str) (to te : TE) : TS := fun D σ H => te σ H fun y H1 => to σ H1 fun x H2 => ∃ a C fI : Addr, x = .ref a ∧ ExG K C fI ∧ PySem.W.findIn K (.ref C) f = some none ∧ ((H2 a = some (exo a C none) ∧ ∀ dx, H2 dx = none → dx ≠ a → D.nx σ (upd (upd H2 dx (exd dx [(f, y)])) a (exo a C (some dx)))) ∨
  ∃ (dx : Addr) (fs : List (Str × V)), H2 a = some (exo a C (some dx)) ∧ H2 dx = some (exd dx fs) ∧ fs.length ≤ 900 ∧ D.nx σ (upd H2 dx (exd dx ((f, y) :: fs))))
section
variable {X : Cx} {o e : Expr} {f : Str} {p' pos : Pos} {to te : TE}
theorem ps_ostG (ho : PE X o to) (he : PE X e te) (hs : swapsWith e (some (.Attribute o f p')) pos.line X.env = pure false := by rfl) : PS X (.Assign [.Attribute o f p'] e pos) (tOstG X.K f to te) := by
  refine ⟨fun pins s σ H D I h => ?_⟩
  refine plainObj_wpAny_Assign_Attribute (thn (he.run pins s σ H _ I h) fun v s1 ⟨y, H1, I1, r1, q1⟩ => thn (ho.run pins s1 σ H1 _ I1 q1) fun u s2 ⟨x, H2, I2, r2, a, C, fI, ex, T, hno, q⟩ => ?_) hs
  subst ex
  obtain rfl : u = Value.ref a := r2
  rcases q with ⟨ea, q⟩ | ⟨dx, fs, ea, ed, hl, q⟩
  · exact ost_newG T I2 ea hno r1 fun dx s' n ne J => ⟨σ, _, J, q dx n ne⟩
  · exact ost_oldG T I2 ea ed hl hno r1 fun s' J => ⟨σ, _, J, q⟩
end
/-! ### such an exception raised -/
section
variable {X : Cx} {e : Expr} {es : List Expr} {ta : TA} {p pos : Pos}
theorem pmk_oexG {CX : CXT} {x : Str} {C fI : Addr} {k : Nat} {fd : FuncData} {ps : List Str} {sp : Sp} {ds : List Value} {dvs : List V} (T : ExG X.K C fI) (tyC : PySem.W.typeIn X.K (.ref C) = some (.type "type"))
    (F1 : FnOk X.prog X.w X.K X.mg X.base CX k fI fd ps sp) (hr : Room (k + 1) X.A) (hb : Binds X.K fd ps ds) (hd : Vals dvs ds) (hx : Passes CX X (fun _ _ _ => False)) (hg : Gl X x) (hm : X.mg x = some (.ref C)) (ha : PA X (e :: es) ta)
    (hdb : (x == ("__debug__" : Str)) = false := by decide) (he : starEach (e :: es) X.env = (false, eval e X.env) :: starEach es X.env := by rfl) (hpl : (backTo pos (starEach es X.env)).any (·.1) = false := by rfl) :
    PMk X (.Call (.Name x p) (e :: es) [] pos) (tMkO C sp dvs ta) := by
  intro pins s σ H Q I h
  obtain ⟨B, newId, initId, bmA, B', bmB, FB, SF, hin, hov, t1, t2, t3⟩ := T.b
  refine wpAny_Call_Name_kw (ld_glob I hg hm ?_ hdb)
  refine PySem.W.callWith_K (h₀ := X.base) I.ok.mod.kin T.kC (thn (ha.run pos pins s σ H _ I h) fun us s1 ⟨vs, H1, I1, r1, hz, q1⟩ => ⟨I1.kIn, ?_⟩) he hpl
  show wpAny _ _ (call (.ref C) us) _ _ _
  obtain ⟨hp, g, dr, tk, os⟩ := s1
  obtain ⟨nm, N, q, bs, bm, hdd, sn, sub, ab, col, dd, k0, k1, k2, k3, k5, hC, hbm⟩ := PySem.W.excInit_of I1.kIn hin
  have hsz : hp.objs.size ≤ hp.objs.size + 1 := Nat.le_succ _
  have hn : H1 (hp.objs.size + 1) = none := I1.hok.fresh hsz
  have hq := q1 (hp.objs.size + 1) hn
  have kk : ∀ b o, hp.get? b = some o → ((hp.push (PySem.W.kdv_tup us)).push (PySem.HandSPX.excO C hp.objs.size)).get? b = some o := fun b o e => Heap.get?_push_of_some _ (Heap.get?_push_of_some _ e)
  have hget : ((hp.push (PySem.W.kdv_tup us)).push (PySem.HandSPX.excO C hp.objs.size)).get? (hp.objs.size + 1) = some (PySem.HandSPX.excO C hp.objs.size) := by heap_get
  have I2 : L2.Inv X pins σ (upd H1 (hp.objs.size + 1) (exo (hp.objs.size + 1) C none)) ⟨(hp.push (PySem.W.kdv_tup us)).push (PySem.HandSPX.excO C hp.objs.size), g, dr, tk, os⟩ :=
    I1.laid (t' := tk) (a := hp.objs.size + 1) (o := exo (hp.objs.size + 1) C none) (h' := (hp.push (PySem.W.kdv_tup us)).push (PySem.HandSPX.excO C hp.objs.size)) kk hsz (exo_ok hget)
  have r2 : Vals (V.ref (hp.objs.size + 1) :: (vs ++ dvs)) (Value.ref (hp.objs.size + 1) :: (us ++ ds)) := .cons rfl (r1.append hd)
  have hl : (Value.ref (hp.objs.size + 1) :: us ++ ds).length = ps.length := by
    have e := r2.length
    rw [F1.len _ _ _ _ hq] at e
    exact e.symm
  have hus : us.length ≤ sizeLine := by
    rw [← Paired.length r1, sizeLine_eq]
    omega
  refine wpAny_call (ExK.call_kw (kw := []) FB ⟨(hbm B).trans t1, (hbm _).trans t2, (hbm _).trans t3⟩ hC (PySem.W.looks_findIn I1.kIn T.iC) (fun self => PySem.W.bind_fn I1.kIn self T.tI) hus
    (codeAny_mono (F1.run _ X.stack _ _ ⟨Value.ref (hp.objs.size + 1) :: us, []⟩ (Value.ref (hp.objs.size + 1) :: (us ++ ds)) _ _ (fun _ _ _ => False) (hr.make C us []) (I2.env0.make C us []) (hb _ (Value.ref (hp.objs.size + 1) :: us) I2.kIn hl) r2 hq) fun r s' hq' => ?_))
  cases r with
  | error er => exact hx pins σ _ _ er s' I2 hq'
  | ok fl =>
    cases fl with
    | ret u =>
      obtain ⟨v, H2, os2, bare2, un2, hok2, rv, ev, d, fs, ea, ed, hd1, q2⟩ := hq'
      subst ev
      obtain ⟨h2, g2, d2, t2, os'⟩ := s'
      exact ⟨rv, mk_end (raises_own T.exC tyC) I1 hsz kk un2 hok2 os2 bare2 ea ed hd1 q2⟩
    | next => exact False.elim hq'
    | brk => exact False.elim hq'
    | cont => exact False.elim hq'
end
/-! ### calls that may raise; defs that may lean on it that nothing is being shown -/
structure CalX (P : Program) (w : World) (K : PySem.W.Frag) (mg : Str → Option Value) (base : Heap) (k : Nat) (x : Str) (sp : Sp) : Prop where
  ex : ∃ (f : Addr) (fd : FuncData) (ps : List Str), FnOk P w K mg base (L2.CX P w) k f fd ps sp ∧ mg x = some (.ref f) ∧ PySem.W.keepIn K (.ref f) = true ∧ Binds K fd ps []
/-! ### the error in the suite: isinstance, a field -/
/-- e.f, e the exception that the suite holds -/
def tSuF (K : PySem.W.Frag) (a : Addr) (cls : Value) (d : Option Addr) (f : Str) (te : TE) : TE := fun σ H Q => te σ H fun x H1 => ∃ (D fI dd : Addr) (fs : List (Str × V)) (v : V), ExG K D fI ∧ PySem.W.findIn K (.ref D) f = some none ∧ cls = .ref D ∧ d = some dd ∧ x = .ref a ∧ H1 dd = some (.xd fs) ∧ List.lookup f fs = some v ∧ Q v H1
theorem pe_suF {X : Cx} {a : Addr} {oe : Obj} {cls : Value} {d : Option Addr} {pn : List (Addr × Obj)} {e : Expr} {te : TE} {pos : Pos} {f : Str} (K : PySem.W.Frag) (hz : Zc cls d oe) (hf : ∃ vs, oe.data = .fields vs) (he : PE (X.suite a ((a, oe) :: pn)) e te)
    (hb : attributeBase e f X.env (eval e X.env) = eval e X.env := by rfl) (h : X.K = K := by rfl) : PE (X.suite a ((a, oe) :: pn)) (.Attribute e f pos) (tSuF K a cls d f te) := by
  subst h
  refine ⟨fun pins s σ H Q I h => ?_⟩
  refine attr_of hb (thn (he.run pins s σ H _ I h) fun u s1 hh => ?_)
  obtain ⟨x, H1, I1, rx, D, fI, dd, fs, v, T, hno, rfl, rfl, rfl, ea, l, q⟩ := hh
  obtain rfl : u = Value.ref a := rx
  obtain ⟨ha, _⟩ := I1.pin (a, oe) (List.mem_append_left _ List.mem_cons_self)
  obtain ⟨vs, hd⟩ := hf
  have hx : ObjOk X.prog X.w H1 s1.heap dd (.xd fs) := I1.hok dd _ ea
  obtain ⟨mA, hns, hr⟩ := hx
  obtain ⟨od, ho, hl⟩ := lookIn_ns hns
  obtain ⟨u, hu, ru⟩ := RelO.some_of (v := v) (o := mA f) (by rw [← l]; exact hr f)
  have J : PySem.W.InstAt s1.heap a oe D (some od) := ⟨ha, hz.1, by unfold PySem.W.notCls; rw [hd] <;> rfl, by rw [hz.2]; exact ho⟩
  exact HandSPX.exc_get I1.kIn J T.ga T.gg T.exC (PySem.W.findObj_own T.hd hno rfl (by rw [hl, hu])) (handed_of ru) ⟨v, H1, I1.tok _, ru, q⟩
/-! ### repr of any of these values -/
/-! ### the error of unpacking -/
abbrev s_copied : Stmt := topS 2
abbrev N_copied : List Str := ["thing", "part", "key"]
theorem sc_copied : FnScope N_copied ["thing"] (defScope s_copied) := ⟨rfl, rfl, rfl, by decide +kernel, rfl, by decide +kernel, by decide +kernel⟩
abbrev s_Refused___init__ : Stmt := inClass (topS 12) 0
abbrev N_Refused___init__ : List Str := ["self", "index", "word"]
theorem sc_Refused___init__ : FnScope N_Refused___init__ ["self", "index", "word"] (defScope s_Refused___init__) := ⟨rfl, rfl, rfl, by decide +kernel, rfl, by decide +kernel, by decide +kernel⟩
theorem r_ostG {K : PySem.W.Frag} {f : Str} {to te : TE} {D : Ends} {σ : L2.St} {H : Hp} (h : te σ H fun y H1 => to σ H1 fun x H2 => ∃ a C fI : Addr, x = .ref a ∧ ExG K C fI ∧ PySem.W.findIn K (.ref C) f = some none ∧ ((H2 a = some (exo a C none) ∧ ∀ dx, H2 dx = none → dx ≠ a → D.nx σ (upd (upd H2 dx (exd dx [(f, y)])) a (exo a C (some dx)))) ∨
  ∃ (dx : Addr) (fs : List (Str × V)), H2 a = some (exo a C (some dx)) ∧ H2 dx = some (exd dx fs) ∧ fs.length ≤ 900 ∧ D.nx σ (upd H2 dx (exd dx ((f, y) :: fs))))) : tOstG K f to te D σ H := h
/-- an error raised, with these fields -/
def ErrA (C : Addr) (fs : List (Str × V)) (H : Hp) (E : XK) : Prop := ∀ dx H', Same H H' → H' dx = some (.xd fs) → E (.ref C) (some dx) H'
theorem ErrA.same {C : Addr} {fs : List (Str × V)} {H H1 : Hp} {E : XK} (e : Same H H1) (h : ErrA C fs H E) : ErrA C fs H1 E := fun dx H' e' => h dx H' (e.trans e')
def spIA (C : Addr) (vs0 : List V) (fs : List (Str × V)) : Sp := fun vs H Q _ => ∃ a : Addr, vs = .ref a :: vs0 ∧ H a = some (exo a C none) ∧ ∀ dx H', (∀ b o, b ≠ a → H b = some o → H' b = some o) → H dx = none → H' a = some (exo a C (some dx)) → H' dx = some (exd dx fs) → Q .non H'
theorem mk_errA {C : Addr} {vs0 : List V} {fs : List (Str × V)} {H : Hp} {W : XK} (q : ErrA C fs H W) :
    ∀ a, H a = none → spIA C vs0 fs (.ref a :: (vs0 ++ [])) (upd H a (exo a C none)) (fun v H2 => v = .non ∧ ∃ (d : Addr) (fs : List (Str × V)), H2 a = some (exo a C (some d)) ∧ H2 d = some (exd d fs) ∧ H d = none ∧ W (.ref C) (some d) (upd (del H2 a) d (.xd fs))) (fun _ _ _ => False) := by
  refine fun a ha => ⟨a, by rw [List.append_nil], upd_same, fun dx H2 fr hdx h1 h2 => ?_⟩
  have nda : dx ≠ a := fun z => by rw [z, upd_same] at hdx; cases hdx
  have hHd : H dx = none := by rw [upd_ne nda] at hdx; exact hdx
  refine ⟨rfl, dx, _, h1, h2, hHd, q dx _ (fun b o e => ?_) upd_same⟩
  rw [upd_ne (ne_of_none e hHd), del_ne (ne_of_none e ha)]
  exact fr b o (ne_of_none e ha) (upd_old ha e)
section
variable {P : Program} {w : World} {K : PySem.W.Frag} {mg : Str → Option Value} {base : Heap}
/-- an own error class of which an object is made by these values -/
structure RaiA (P : Program) (w : World) (K : PySem.W.Frag) (mg : Str → Option Value) (base : Heap) (x : Str) (C : Addr) (R : List V → List (Str × V) → Prop) : Prop where
  ex : ∃ (fI : Addr) (fd : FuncData) (ps : List Str), ExG K C fI ∧ PySem.W.typeIn K (.ref C) = some (.type "type") ∧ FnOk P w K mg base CX0 3 fI fd ps (fun vs H Q E => ∃ vs0 fs, R vs0 fs ∧ spIA C vs0 fs vs H Q E) ∧ Binds K fd ps [] ∧ mg x = some (.ref C)
def RRef (vs : List V) (fs : List (Str × V)) : Prop := ∃ (o : Int) (z : Str), vs = [V.int o, V.str z] ∧ fs = [(("word" : Str), V.str z), (("index" : Str), V.int o)]
def spCop1 : Sp := fun vs H Q _ => ∃ x : V, vs = [x] ∧ ((∃ i, x = .int i) ∨ ∃ z, x = .str z) ∧ Q x H
theorem ok_cop1 {f : Addr} {fd : FuncData} {k : Nat} (F : Fun K "copied" "copied" s_copied f fd) (m1 : mg "isinstance" = none) (m2 : mg "list" = none) (m3 : mg "tuple" = none) (m4 : mg "dict" = none) (c_copied : CalT P w K mg base 0 "copied" (fun _ _ _ _ => False)) : FnOk P w K mg base CX0 (k + 1) f fd ["thing"] spCop1 := by
  refine F.ok sc_copied (fun vs H Q E h => ?_) (fun cdv A outer s H vs Q E hr h => ?_)
  · obtain ⟨i, rfl, _⟩ := h
    rfl
  · obtain ⟨x, rfl, hx, q⟩ := h
    have hu := hu_of hr
    have nd := sc_copied.nd
    refine ⟨_, (pss_cons (ps_if (pt_val (pe_callB (call_isiK1 K) (by rfl) (by assumption) (by decide +kernel) (pa_cons (pv 0) (pa_cons (pe_bltn (v := .ty "list") (by rfl) (by assumption) (by decide +kernel) rfl) pa_nil))))
        (pss_one (ps_ret (pe_lc (own := [("part", 1)]) (g := (gName 1)) (tt := tYes) rfl nd (pi_list (pv 0)) (blkOk_by (N := N_copied) (sc := defScope s_copied) (by decide +kernel)) (fun _ _ _ _ _ => (pg_name (i := 1) nd rfl (Or.inl rfl))) (fun _ _ _ _ _ => pts_nil) (fun _ _ _ _ _ => (pe_cc c_copied hr (by omega) (by rfl) (pa_cons (pv 1) pa_nil))))))
        pss_nil)
      (pss_cons (ps_if (pt_val (pe_callB (call_isiK1 K) (by rfl) (by assumption) (by decide +kernel) (pa_cons (pv 0) (pa_cons (pe_bltn (v := .ty "tuple") (by rfl) (by assumption) (by decide +kernel) rfl) pa_nil))))
        (pss_one (ps_ret (pe_tupleOf (by rfl) (by assumption) (pe_lc (own := [("part", 1)]) (g := (gName 1)) (tt := tYes) rfl nd (pi_tup (pv 0)) (blkOk_by (N := N_copied) (sc := defScope s_copied) (by decide +kernel)) (fun _ _ _ _ _ => (pg_name (i := 1) nd rfl (Or.inl rfl))) (fun _ _ _ _ _ => pts_nil) (fun _ _ _ _ _ => (pe_cc c_copied hr (by omega) (by rfl) (pa_cons (pv 1) pa_nil)))))))
        pss_nil)
      (pss_cons (ps_if (pt_val (pe_callB (call_isiK1 K) (by rfl) (by assumption) (by decide +kernel) (pa_cons (pv 0) (pa_cons (pe_bltn (v := .ty "dict") (by rfl) (by assumption) (by decide +kernel) rfl) pa_nil))))
        (pss_one ps_never)
        pss_nil)
      (pss_one (ps_ret (pv 0)))))), ?_⟩
    rcases hx with ⟨i, rfl⟩ | ⟨z, rfl⟩
    · walk_at "rd"
      exact q
    · walk_at "rd"
      exact q
theorem ok_iRef {fI C : Addr} {fd : FuncData} {k : Nat} (F : Fun K "__init__" "Refused.__init__" s_Refused___init__ fI fd) (T : ExG K C fI) (hno : PySem.W.findIn K (.ref C) "index" = some none) (hno2 : PySem.W.findIn K (.ref C) "word" = some none) (c_copied : CalT P w K mg base 1 "copied" spCop1) : FnOk P w K mg base CX0 (k + 3) fI fd ["self", "index", "word"] (fun vs H Q E => ∃ vs0 fs, RRef vs0 fs ∧ spIA C vs0 fs vs H Q E) := by
  refine F.ok sc_Refused___init__ (fun vs H Q E h => ?_) (fun cdv A outer s H vs Q E hr h => ?_)
  · obtain ⟨vs0, fs, ⟨o, z, rfl, rfl⟩, a, rfl, _⟩ := h
    rfl
  · obtain ⟨vs0, fs, ⟨o, z, rfl, rfl⟩, a, rfl, ha, q⟩ := h
    have hu := hu_of hr
    have nd := sc_Refused___init__.nd
    refine ⟨_, (pss_cons (ps_ostG (pv 0) (pe_cc c_copied hr (by omega) (by rfl) (pa_cons (pv 1) pa_nil)) rfl)
      (pss_one (ps_ostG (pv 0) (pe_cc c_copied hr (by omega) (by rfl) (pa_cons (pv 2) pa_nil)) rfl))), ?_⟩
    refine r_seq ?_
    refine r_ostG ?_
    walk_at "rd"
    refine ⟨_, rfl, .inl ⟨_, rfl⟩, ?_⟩
    walk_at "rd"
    refine ⟨a, C, fI, rfl, T, hno, .inl ⟨ha, fun dx hdx ne => ?_⟩⟩
    dsimp only
    refine r_ostG ?_
    walk_at "rd"
    refine ⟨_, rfl, .inr ⟨_, rfl⟩, ?_⟩
    walk_at "rd"
    refine ⟨a, C, fI, rfl, T, hno2, .inr ⟨dx, [("index", V.int o)], upd_same, by rw [upd_ne ne, upd_same], (show 1 ≤ 900 by decide), ?_⟩⟩
    exact q dx _ (fun b o nb eb => by rw [upd_ne (ne_of_none eb hdx), upd_ne nb, upd_ne (ne_of_none eb hdx)]; exact eb) hdx (by rw [upd_ne ne.symm, upd_same]) upd_same
end
/-! ### several clauses -/
/-! ### the word for which any member is refused, pure -/
def okUp (l : List (Str × Thg)) (p : Str) : Bool := "" == kindA l p || "directory" == kindA l p
def wordP (t : Trd) (m : Mem) : Str := if pathB m.nm = false then "name" else if (aboveP m.nm).all (okUp t.things) = false then "parent" else refP t.things m.nm m m.tgt
theorem okUp_or {l : List (Str × Thg)} {p : Str} (h : okUp l p = true) : kindA l p = "" ∨ kindA l p = "directory" := by
  unfold okUp at h
  rw [Bool.or_eq_true, beq_iff_eq, beq_iff_eq] at h
  exact h.imp Eq.symm Eq.symm
theorem wordP_fit {t : Trd} {m : Mem} (h : wordP t m = "") : FitM t m := by
  unfold wordP at h
  split at h
  · exact absurd h (by decide +kernel)
  · rename_i h1
    split at h
    · exact absurd h (by decide +kernel)
    · rename_i h2
      rw [Bool.not_eq_false] at h1 h2
      exact ⟨h1, fun p hp => okUp_or (List.all_eq_true.mp h2 p hp), h⟩
/-- every file has a mark -/
def MkOk (t : Trd) : Prop := ∀ z, kindA t.things z = "file" → (look t.marks z).isSome = true
theorem MkOk.put {t : Trd} (h : MkOk t) (m : Mem) : MkOk (putM t m) := fun z hz => by
  unfold kindA at hz
  rw [putM_th] at hz
  rw [putM_mk]
  by_cases e : z = m.nm
  · rw [if_pos e] at hz ⊢
    rw [if_pos (show (m.thg' (putAb t.things (aboveP m.nm)) m.tgt).kind = "file" from hz)]
    rfl
  · rw [if_neg e] at hz ⊢
    refine h z ?_
    unfold kindA
    split at hz
    · cases hl : look t.things z with
      | none => rw [hl] at hz; exact absurd hz (by decide +kernel)
      | some x => rw [hl] at hz; exact hz
    · exact hz
theorem MkOk.all : ∀ {ms : List Mem} {t : Trd}, MkOk t → MkOk (putAll t ms)
  | [], _, h => h
  | m :: r, _, h => MkOk.all (ms := r) (h.put m)
theorem MkOk.nil {n : Int} : MkOk ⟨[], [], n⟩ := fun z hz => absurd hz (by show ¬ ("" : Str) = "file"; decide +kernel)
theorem putAll_len : ∀ {ms : List Mem} {t : Trd}, (∀ m ∈ ms, (aboveP m.nm).length ≤ 10) → (putAll t ms).things.length ≤ t.things.length + 11 * ms.length ∧ (putAll t ms).marks.length ≤ t.marks.length + ms.length
  | [], _, _ => ⟨Nat.le_refl _, Nat.le_refl _⟩
  | m :: r, t, h => by
    have g := putAll_len (ms := r) (t := putM t m) fun x hx => h x (List.mem_cons_of_mem _ hx)
    have h1 := h m List.mem_cons_self
    have h2 := putM_len (t := t) (m := m)
    have h3 := putM_mlen (t := t) (m := m)
    show (putAll (putM t m) r).things.length ≤ _ ∧ (putAll (putM t m) r).marks.length ≤ _
    rw [List.length_cons]
    omega
/-! ### unpacking that may refuse -/
theorem pe_cp {X : Cx} {j k : Nat} {x : Str} {sp : Sp} {E : XK} {e : Expr} {es : List Expr} {p pos : Pos} {t : TA} (c : CalX X.prog X.w X.K X.mg X.base k x sp) (hr : Room j X.A) (hk : k ≤ j) (hg : Gl X x) (hx : Passes (L2.CX X.prog X.w) X E) (ha : PA X (e :: es) t) (hdb : (x == ("__debug__" : Str)) = false := by decide)
    (he : starEach (e :: es) X.env = (false, eval e X.env) :: starEach es X.env := by rfl) (hpl : (backTo pos (starEach es X.env)).any (·.1) = false := by rfl) : PE X (.Call (.Name x p) (e :: es) [] pos) (tCall sp [] E t) := by
  obtain ⟨f, fd, ps, F, hm, kp, b⟩ := c.ex
  exact pe_call F (hr.mono hk) hg hm kp b .nil hx ha hdb he hpl
section
variable {P : Program} {w : World} {K : PySem.W.Frag} {mg : Str → Option Value} {base : Heap}
def spRefG (K : PySem.W.Frag) (C : Addr) (c : Cs) : Sp := fun vs H Q _ => ∃ (x y : Addr) (t : Trd) (m : Mem), vs = [.ref x, .ref y] ∧ TrAt K C H x t ∧ m.Ins c H y ∧ m.nm.length ≤ 1000 ∧ ∀ H', Same H H' → Q (.str (wordP t m)) H'
theorem ok_refG {f C aM : Addr} {fd : FuncData} {k : Nat} {c : Cs} (F : Fun K "refusal" "refusal" s_refusal f fd) (hc : TrC K C) (M : MF K c aM) (c_is_path : CalT P w K mg base 3 "is_path" spIsPath) (c_above : CalT P w K mg base 2 "paths_above" spAbove) (c_kind_at : CalT P w K mg base 2 "kind_at" (spKindAt K)) (c_target : CalT P w K mg base 2 "target_of" (spTarget c)) (mA_refat : MetA P w K mg base 3 C "refusal_at" ["self", "path", "member", "target"] (spRefAt K C c)) : FnOk P w K mg base CX0 (k + 4) f fd ["tree", "member"] (spRefG K C c) := by
  refine F.ok sc_refusal (fun vs H Q E9 h => ?_) (fun cdv A outer s H vs Q E9 hr h => ?_)
  · obtain ⟨x, y, t, m, rfl, _⟩ := h
    rfl
  · obtain ⟨x, y, t, m, rfl, ⟨dx, D, Mk, ps, qs, g⟩, hm, hzl, q⟩ := h
    have hu := hu_of hr
    have nd := sc_refusal.nd
    obtain ⟨Cy, dy, fy, hy, hC, _, f1, _, _⟩ := Mem.has M hm
    refine ⟨_, (pss_cons (ps_if (pt_not (pt_val (pe_cc c_is_path hr (by omega) (by rfl) (pa_cons (pe_fldN K (pv 1)) pa_nil))))
        (pss_one (ps_ret pe_str))
        pss_nil)
      (pss_cons (ps_for PassesOwn.never rfl (pi_list (pe_cc c_above hr (by omega) (by rfl) (pa_cons (pe_fldN K (pv 1)) pa_nil))) (pg_name (i := 2) nd rfl (Or.inl rfl))
        (pss_one (ps_if (pt_cmpR (op_notInK K) (pe_cc c_kind_at hr (by omega) (by rfl) (pa_cons (pv 2) (pa_cons (pe_fldN K (pv 0)) pa_nil))) (pe_tup (pa_cons pe_str (pa_cons pe_str pa_nil))) (by rfl))
        (pss_one (ps_ret pe_str))
        pss_nil)))
      (pss_one (ps_ret (pe_mtA mA_refat hr (by omega) (pv 0) (pa_cons (pe_fldN K (pv 1)) (pa_cons (pv 1) (pa_cons (pe_cc c_target hr (by omega) (by rfl) (pa_cons (pv 1) pa_nil)) pa_nil)))))))), ?_⟩
    walk_at "rd"
    refine r_fldE hy hC.cl hC.n1 f1 ?_
    walk_at "rd"
    refine ⟨m.nm, rfl, hzl, fun H1 e1 => ?_⟩
    cases hpb : pathB m.nm with
    | false =>
      walk_at "rd"
      have hw : wordP t m = "name" := by unfold wordP; rw [if_pos hpb]
      rw [hw] at q
      exact q _ e1
    | true =>
      walk_at "rd"
      refine r_fldE (e1 _ _ hy) hC.cl hC.n1 f1 ?_
      walk_at "rd"
      refine ⟨m.nm, rfl, hzl, fun L H2 hL e2 gL => ?_⟩
      walk_at "rd"
      have E2 := e1.trans e2
      have hTh : ThR K H2 D t.things := ThR.same E2 ⟨ps, .inl g.d, g.pd⟩
      have tr2 : ∀ H', Same H2 H' → TrAt K C H' x t := fun H' e => ⟨dx, D, Mk, ps, qs, (E2.trans e) _ _ g.ob, (E2.trans e) _ _ g.d, g.pd.mono fun _ _ y => y.same (E2.trans e), (E2.trans e) _ _ g.m, g.pm, g.ne⟩
      refine for_it (walk_list (xs := (aboveP m.nm).map V.str)) (fun i σ H' => ∃ v2, σ = [some (.ref x), some (.ref y), v2] ∧ Same H2 H' ∧ ((aboveP m.nm).take i).all (okUp t.things) = true) ⟨none, rfl, Same.refl _, rfl⟩ (fun i σ H' _ ⟨_, _, e, _⟩ => SqL.of (e _ _ gL)) ?_ ?_
      · rintro i v σ Hc H' hi ⟨v2, rfl, e, ha⟩ ⟨rfl, hv⟩
        rw [List.getElem?_map] at hv
        obtain ⟨p, hp, rfl⟩ : ∃ x, (aboveP m.nm)[i]? = some x ∧ V.str x = v := by
          cases e : (aboveP m.nm)[i]? with
          | none => rw [e] at hv; cases hv
          | some x => rw [e] at hv; exact ⟨x, rfl, Option.some.inj hv⟩
        walk_at "rd"
        refine r_fldE (E2.trans e _ _ g.ob) hc.cl hc.things rfl ?_
        walk_at "rd"
        refine ⟨p, D, t.things, rfl, hTh.same e, ?_⟩
        walk_at "rd"
        rename_i p9 hp9
        refine ⟨p9, [.str "", .str "directory"], rfl, .inr (SqT.of upd_same), rfl, rfl, ?_⟩
        have e9 := e.trans (same_new (o := HO.tup [V.str "", V.str "directory"]) hp9)
        rw [show inV (.str (kindA t.things p)) [.str "", .str "directory"] = okUp t.things p by simp [inV, okUp, eqV]]
        cases hk : okUp t.things p with
        | true =>
          refine ⟨false, rfl, ?_⟩
          refine r_iteF (r_next ?_)
          exact ⟨_, rfl, e9, by rw [take_snoc hp, List.all_append, ha]; simp [hk]⟩
        | false =>
          refine ⟨true, rfl, ?_⟩
          have hw : wordP t m = "parent" := by
            unfold wordP
            rw [if_neg (by rw [hpb]; decide), if_pos]
            rw [← Bool.not_eq_true, List.all_eq_true]
            intro h
            rw [h p (List.mem_of_getElem? hp)] at hk
            cases hk
          rw [hw] at q
          walk_at "rd"
          exact q _ (E2.trans e9)
      · rintro σ Hc ⟨v2, rfl, e, ha⟩
        rw [List.length_map, List.take_length] at ha
        have hw : wordP t m = refP t.things m.nm m m.tgt := by unfold wordP; rw [if_neg (by rw [hpb]; decide), if_neg (by rw [ha]; decide)]
        rw [hw] at q
        walk_at "rd"
        refine r_meth ?_
        walk_at "rd"
        refine ⟨x, dx, _, rfl, (E2.trans e) _ _ g.ob, rfl, ?_⟩
        walk_at "rd"
        refine r_fldE ((E2.trans e) _ _ hy) hC.cl hC.n1 f1 ?_
        walk_at "rd"
        refine ⟨y, m, rfl, hm.same (E2.trans e), fun H5 e5 => ?_⟩
        refine ⟨x, y, m.nm, m.tgt, t, m, rfl, tr2 H5 (e.trans e5), hm.same ((E2.trans e).trans e5), fun H6 e6 => ?_⟩
        exact q _ (((E2.trans e).trans e5).trans e6)
def errU (cR : Addr) (wd : Str) (i : Int) : Hp → XK → Prop := ErrA cR [("word", .str wd), ("index", .int i)]
def spUnpackX (K : PySem.W.Frag) (C : Addr) (c : Cs) (cR : Addr) : Sp := fun vs H Q E => ∃ (x y dx D M : Addr) (i : Int) (t : Trd) (m : Mem) (ps qs : List (Key × V)), vs = [.ref x, .int i, .ref y] ∧ TrIn K C H x dx D M ps qs t ∧ x ≠ y ∧ m.Ins c H y ∧ m.Ok ∧ m.nm.length ≤ 1000 ∧ MkOk t ∧ t.things.length ≤ 1000 ∧ t.marks.length ≤ 1000 ∧
  (wordP t m ≠ "" → errU cR (wordP t m) i H E) ∧ (wordP t m = "" → ∀ ps' qs' H', (∀ b o, b ≠ x → b ≠ D → b ≠ M → H b = some o → H' b = some o) → TrIn K C H' x dx D M ps' qs' (putM t m) → Q .non H')
theorem ok_unpackX {f C aM cR : Addr} {fd : FuncData} {k : Nat} {c : Cs} (F : Fun K "unpack" "unpack" s_unpack f fd) (hc : TrC K C) (M : MF K c aM) (R1 : RaiA P w K mg base "Refused" cR RRef) (c_refusal : CalT P w K mg base 4 "refusal" (spRefG K C c)) (c_target : CalT P w K mg base 2 "target_of" (spTarget c)) (mA_put : MetA P w K mg base 4 C "put" ["self", "path", "member", "target"] (spPut K C c)) : FnOk P w K mg base (L2.CX P w) (k + 5) f fd ["tree", "index", "member"] (spUnpackX K C c cR) := by
  refine F.okX sc_unpack (fun vs H Q E9 h => ?_) (fun cdv A outer s H vs Q E9 hr h => ?_)
  · obtain ⟨x, y, dx, D, Mk, i, t, m, ps, qs, rfl, _⟩ := h
    rfl
  · obtain ⟨x, y, dx, D, Mk, i, t, m, ps, qs, rfl, g, nxy, hm, hok, hzl, mk, l1, l2, q1, q2⟩ := h
    have hu := hu_of hr
    have nd := sc_unpack.nd
    obtain ⟨fI1, fd1, ps1, T1, ty1, F1, hb1, mm1⟩ := R1.ex
    refine ⟨_, (pss_cons (ps_set (i := 3) nd rfl (Or.inl rfl) (pe_cc c_refusal hr (by omega) (by rfl) (pa_cons (pv 0) (pa_cons (pv 2) pa_nil))))
      (pss_cons (ps_if (pt_cmpR op_ne (pv 3) pe_str (nomark _))
        (pss_one (ps_raise rfl (takes_of rfl rfl rfl rfl) (pmk_oexG T1 ty1 F1 (hr.mono (by omega)) hb1 .nil pass0 (by rfl) mm1 (pa_cons (pv 1) (pa_cons (pv 3) pa_nil)))))
        pss_nil)
      (pss_one (ps_expr (pe_mtA mA_put hr (by omega) (pv 0) (pa_cons (pe_fldN K (pv 2)) (pa_cons (pv 2) (pa_cons (pe_cc c_target hr (by omega) (by rfl) (pa_cons (pv 2) pa_nil)) pa_nil)))))))), ?_⟩
    walk_at "rd"
    refine ⟨x, y, t, m, rfl, ⟨dx, D, Mk, ps, qs, g⟩, hm, hzl, fun H1 e1 => ?_⟩
    obtain ⟨Cy, dy, fy, hy, hC, _, f1, _, _⟩ := Mem.has M hm
    walk_at "rd"
    rw [dec_strV]
    by_cases e : wordP t m = ""
    · rw [decide_eq_true e]
      have fit := wordP_fit e
      walk_at "rd"
      refine r_meth ?_
      walk_at "rd"
      refine ⟨x, dx, _, rfl, e1 _ _ g.ob, rfl, ?_⟩
      walk_at "rd"
      refine r_fldE (e1 _ _ hy) hC.cl hC.n1 f1 ?_
      walk_at "rd"
      refine ⟨y, m, rfl, hm.same e1, fun H2 e2 => ?_⟩
      have E := e1.trans e2
      refine ⟨x, y, dx, D, Mk, m.nm, m.tgt, t, m, ps, qs, rfl, ⟨E _ _ g.ob, E _ _ g.d, g.pd.mono fun _ _ y => y.same E, E _ _ g.m, g.pm, g.ne⟩, nxy, hm.same E, hok, hzl, l1, l2, fun hl => ⟨refP_lnk hl fit.ref, mk _ (refP_lnk hl fit.ref)⟩, fun ps' qs' H3 fr g3 => ?_⟩
      walk_at "rd"
      exact q2 e ps' qs' H3 (fun b o n1 n2 n3 h => fr b o n1 n2 n3 (E _ _ h)) g3
    · rw [decide_eq_false e]
      walk_at "rd"
      refine ⟨_, rfl, _, rfl, ?_⟩
      exact ⟨(show 2 ≤ 1000 by decide), fun a ha => ⟨_, _, ⟨_, _, rfl, rfl⟩, mk_errA ((q1 e).same e1) a ha⟩⟩
def spUnpdX (K : PySem.W.Frag) (C CH : Addr) (c : Cs) (cR : Addr) : Sp := fun vs H Q E => ∃ (y L : Addr) (h : Hs) (xs : List V) (ms : List Mem), vs = [.ref y, .ref L] ∧ HsAt K CH H y h ∧ (h.things.map (·.1)).Nodup ∧ (h.firsts.map (·.1)).Nodup ∧ h.things.length ≤ 100 ∧ h.firsts.length ≤ 100 ∧ MkOk (trdOf h) ∧
  SqL K H L xs ∧ MemsAt c H xs ms ∧ (∀ m ∈ ms, m.Ok ∧ m.nm.length ≤ 1000 ∧ (aboveP m.nm).length ≤ 10) ∧ ms.length ≤ 40 ∧
  (∀ i m, ms[i]? = some m → (∀ j m, j < i → ms[j]? = some m → wordP (putAll (trdOf h) (ms.take j)) m = "") → wordP (putAll (trdOf h) (ms.take i)) m ≠ "" → errU cR (wordP (putAll (trdOf h) (ms.take i)) m) (i : Int) H E) ∧
  ((∀ i m, ms[i]? = some m → wordP (putAll (trdOf h) (ms.take i)) m = "") → (putAll (trdOf h) ms).things.length < 64 ∧
    ∀ ys z H', ys.Perm ((putAll (trdOf h) ms).things.map (·.1)) → sortedS ys = true → H z = none → Same H H' → HsNw K CH H H' z (hsOf (putAll (trdOf h) ms).things (putAll (trdOf h) ms).marks ys) → Q (.ref z) H')
theorem ok_unpdX {f C CH cR : Addr} {fd : FuncData} {k : Nat} {c : Cs} (F : Fun K "unpacked" "unpacked" s_unpacked f fd) (m1 : mg "enumerate" = none) (hc : TrC K C) (mk_TreeD : MakS P w K mg base 2 "Tree" C [] (fun vs zs H Q => vs.length = 2 ∧ ∀ E, spTInit K C CH (vs ++ zs) H Q E)) (x_unpack : CalX P w K mg base 5 "unpack" (spUnpackX K C c cR)) (mA_house : MetA P w K mg base 4 C "house" ["self"] (spTHouse K C CH)) : FnOk P w K mg base (L2.CX P w) (k + 6) f fd ["house", "members"] (spUnpdX K C CH c cR) := by
  refine F.okX sc_unpacked (fun vs H Q E9 h => ?_) (fun cdv A outer s H vs Q E9 hr h => ?_)
  · obtain ⟨y, L, h, xs, ms, rfl, _⟩ := h
    rfl
  · obtain ⟨y, L, h, xs, ms, rfl, hH, n1, n2, l1, l2, mk, hL, hms, hok, lm, q1, q2⟩ := h
    have hu := hu_of hr
    have nd := sc_unpacked.nd
    refine ⟨_, (pss_cons (ps_set (i := 2) nd rfl (Or.inl rfl) (pe_mks mk_TreeD hr (by omega) (by rfl) (pa_cons (pv 0) pa_nil) pk_nil))
      (pss_cons (ps_for (passes_of rfl) rfl (pi_enum (by rfl) (by assumption) (pa_cons (pv 1) pa_nil)) (pg_tupK K (pg_tup rfl (pgs_cons (pg_name (i := 3) nd rfl (Or.inl rfl)) (pgs_cons (pg_name (i := 4) nd rfl (Or.inl rfl)) pgs_nil))))
        (pss_one (ps_expr (pe_cp x_unpack hr (by omega) (by rfl) (passes_call (takes_of rfl rfl rfl rfl) (fun _ _ _ _ h => h)) (pa_cons (pv 2) (pa_cons (pv 3) (pa_cons (pv 4) pa_nil)))))))
      (pss_one (ps_ret (pe_mtA0 mA_house hr (by omega) (pv 2)))))), ?_⟩
    walk_at "rd"
    refine ⟨rfl, fun x dx hx hdx ndx => ⟨rfl, fun E => ?_⟩⟩
    have up : ∀ b o, H b = some o → upd (upd H dx (HO.own x)) x (HO.ins C dx []) b = some o := fun b o e => by
      rw [upd_ne (ne_of_none e hx), upd_ne (ne_of_none e hdx)]
      exact e
    have upS : Same H (upd (upd H dx (HO.own x)) x (HO.ins C dx [])) := up
    refine ⟨x, dx, y, h, rfl, upd_same, hH.same upS, n1, n2, by omega, by omega, fun D M ps qs H1 hD hM fr1 g1 => ⟨rfl, ?_⟩⟩
    have S1 : Same H H1 := fun b o e => fr1 b o (ne_of_none e hx) (up _ _ e)
    have fD : H D = none := upS.free hD
    have fM : H M = none := upS.free hM
    refine r_gname ?_
    walk_at "rd"
    have hL1 := S1.seq hL
    refine r_iEnum ?_
    walk_at "rd"
    refine ⟨L, xs, rfl, hL1, ?_⟩
    have len : ∀ i, (putAll (trdOf h) (ms.take i)).things.length ≤ 1000 ∧ (putAll (trdOf h) (ms.take i)).marks.length ≤ 1000 := fun i => by
      have h1 := putAll_len (ms := ms.take i) (t := trdOf h) fun m hm => (hok m (List.mem_of_mem_take hm)).2.2
      have h2 : (ms.take i).length ≤ 40 := by rw [List.length_take]; omega
      have h3 : (trdOf h).things.length ≤ 100 := l1
      have h4 : (trdOf h).marks.length ≤ 100 := by show (h.firsts.map _).length ≤ 100; rw [List.length_map]; exact l2
      omega
    refine for_it (walk_enum (xs := xs)) (fun i σ H' => ∃ v3 v4 ps' qs', σ = [some (.ref y), some (.ref L), some (.ref x), v3, v4] ∧ Same H H' ∧ TrIn K C H' x dx D M ps' qs' (putAll (trdOf h) (ms.take i)) ∧ ∀ j m, j < i → ms[j]? = some m → wordP (putAll (trdOf h) (ms.take j)) m = "") ?_ (fun i σ H' _ ⟨_, _, _, _, _, e, _⟩ => e.seq hL) ?_ ?_
    · exact ⟨none, none, ps, qs, rfl, S1, g1, fun j m hj => absurd hj (Nat.not_lt_zero _)⟩
    · rintro i v σ Hc H' hi ⟨v3, v4, ps', qs', rfl, S, g, good⟩ ⟨TT, x1, y1, rfl, hTT, rfl, hx1, hy1⟩
      cases Option.some.inj hx1
      obtain ⟨m, hm, y9, rfl, hy9⟩ := paired_at hms hy1
      have hTl : SqT K (upd Hc TT (.tup [.int (i : Int), .ref y9])) TT [.int (i : Int), .ref y9] := SqT.of upd_same
      have e6 := same_new (o := HO.tup [.int (i : Int), .ref y9]) hTT
      generalize (upd Hc TT (.tup [.int (i : Int), .ref y9])) = H6 at *
      refine r_gtup hTl rfl ?_
      refine r_gcons ?_
      refine r_gname ?_
      refine r_gcons ?_
      refine r_gname ?_
      refine r_gnil ?_
      walk_at "rd"
      have nxy : x ≠ y9 := by
        obtain ⟨Cy, dy, fy, hy⟩ := Mem.ob hy9
        exact (ne_of_none hy hx).symm
      have mem := List.mem_of_getElem? hm
      refine ⟨x, y9, dx, D, M, (i : Int), _, m, ps', qs', rfl, ⟨e6 _ _ g.ob, e6 _ _ g.d, g.pd.mono fun _ _ y => y.same e6, e6 _ _ g.m, g.pm, g.ne⟩, nxy, hy9.same (S.trans e6), (hok m mem).1, (hok m mem).2.1, mk.all, (len i).1, (len i).2, fun hw => (q1 i m hm good hw).same (S.trans e6), fun hw ps2 qs2 H7 fr7 g7 => ?_⟩
      walk_at "rd"
      refine ⟨_, _, ps2, qs2, rfl, fun b o e => fr7 b o (ne_of_none e hx) (ne_of_none e fD) (ne_of_none e fM) ((S.trans e6) _ _ e), ?_, fun j m' hj hm' => ?_⟩
      · rw [take_snoc hm, putAll_snoc]
        exact g7
      · by_cases e : j < i
        · exact good j m' e hm'
        · have ej : j = i := by omega
          subst ej
          rw [hm] at hm'
          cases hm'
          exact hw
    · rintro σ Hc ⟨v3, v4, ps', qs', rfl, S, g, good⟩
      rw [show xs.length = ms.length from Paired.length hms] at good
      rw [show xs.length = ms.length from Paired.length hms, List.take_length] at g
      obtain ⟨hlt, q⟩ := q2 fun i m hm => good i m (List.getElem?_eq_some_iff.mp hm).1 hm
      walk_at "rd"
      refine r_meth ?_
      walk_at "rd"
      refine ⟨x, dx, _, rfl, g.ob, rfl, ?_⟩
      refine ⟨x, _, rfl, ⟨dx, D, M, ps', qs', g⟩, hlt, putAll_nd n1, fun ys z H8 hpm hst hz e8 hH8 => ?_⟩
      obtain ⟨T8, F8, hT8, hF8, g8⟩ := hH8
      exact q ys z H8 hpm hst (S.free hz) (S.trans e8) ⟨T8, F8, S.free hT8, S.free hF8, g8⟩
end
abbrev s_House_entries : Stmt := inClass (topS 48) 4
abbrev N_House_entries : List Str := ["self"]
theorem sc_House_entries : FnScope N_House_entries ["self"] (defScope s_House_entries) := ⟨rfl, rfl, rfl, by decide +kernel, rfl, by decide +kernel, by decide +kernel⟩
/-! ### entries of a house -/
theorem call_listK {X : Cx} (K : PySem.W.Frag) (h : X.K = K := by rfl) : CallR X (.type "list") (fun xs H Q => ∃ p ys, xs = [.ref p] ∧ (SqL K H p ys ∨ SqT K H p ys) ∧ ∀ l, H l = none → Q (.ref l) (upd H l (.lst ys))) := h ▸ call_list_of
section
variable {P : Program} {w : World} {K : PySem.W.Frag} {mg : Str → Option Value} {base : Heap}
def spHEnts (C : Addr) (K : PySem.W.Frag) : Sp := fun vs H Q _ => ∃ (x : Addr) (h : Hs), vs = [.ref x] ∧ HsAt K C H x h ∧ ∀ E vs H', H E = none → Same H H' → H' E = some (.lst vs) → Paired (EntAt K H') vs h.rows → Q (.ref E) H'
theorem ok_hents {f C : Addr} {fd : FuncData} {k : Nat} (F : Fun K "entries" "House.entries" s_House_entries f fd) (hc : HsC K C) (m1 : mg "list" = none) : FnOk P w K mg base CX0 (k + 2) f fd ["self"] (spHEnts C K) := by
  refine F.ok sc_House_entries (fun vs H Q E h => ?_) (fun cdv A outer s H vs Q E hr h => ?_)
  · obtain ⟨x, h, rfl, _⟩ := h
    rfl
  · obtain ⟨x, h, rfl, ⟨dx, R, T, F1, vs, ps, qs, g⟩, q⟩ := h
    have hu := hu_of hr
    have nd := sc_House_entries.nd
    refine ⟨_, (pss_one (ps_ret (pe_callTy (call_listK K) (by rfl) (by assumption) (by decide +kernel) (pa_cons (pe_fldN K (pv 0)) pa_nil)))), ?_⟩
    walk_at "rd"
    refine r_fldE g.ob hc.cl hc.rows rfl ?_
    walk_at "rd"
    refine ⟨R, vs, rfl, .inr (SqT.of g.r), fun E hE => ?_⟩
    have e := same_new (o := HO.lst vs) hE
    exact q E vs _ hE e upd_same (Paired.mapP g.pr fun _ _ y => y.same e)
end
abbrev s__law_told : Stmt := topS 71
abbrev N__law_told : List Str := ["_law_call", "e", "_law_row"]
theorem sc__law_told : FnScope N__law_told ["_law_call"] (defScope s__law_told) := ⟨rfl, rfl, rfl, by decide +kernel, rfl, by decide +kernel, by decide +kernel⟩
/-! ### what a call tells -/
open LamX (CodeO)
def tryOf : List Stmt → List Stmt
  | .Try b _ _ _ _ :: _ => b
  | _ => []
/-- how a house, or an error, is told -/
def TTtold (K : PySem.W.Frag) (CH cR : Addr) (tl : XK → Hp → VK → Prop) (H : Hp) (Q : VK) : Prop :=
  ∀ (E : XK) (R : VK), (∀ D i wd G, G D = some (.xd [("word", .str wd), ("index", .int i)]) → (∀ p G', G p = none → Same G G' → G' p = some (.tup [.int i, .str wd]) → Q (.ref p) G') → E (.ref cR) (some D) G) →
    (∀ x h G, HsAt K CH G x h → h.rows.length ≤ 1000 → (∀ p G', G p = none → Same G G' → G' p = some (.lst (h.rows.map fun q => V.str q.1)) → Q (.ref p) G') → R (.ref x) G) → tl E H R
section
variable {P : Program} {w : World} {K : PySem.W.Frag} {mg : Str → Option Value} {base : Heap}
theorem ok_told {g CH cR iR : Addr} {k : Nat} (at_ : ∃ (oc : Value) (od an : Option Addr) (kV doc pm cdv ct : Value) (osl : Array (Option Value)), K.lookup g = some ⟨oc, od, .func (PySem.W.fnOf "_law_told" "_law_told" (defArgs s__law_told) (defBody s__law_told) (defScope s__law_told) .none kV doc pm an cdv ct), osl⟩ ∧ PySem.W.codeIn K cdv "_law_told" = true) (kept : PySem.W.keepIn K (.ref g) = true) (hm : mg "_law_told" = some (.ref g))
    (mR : mg "Refused" = some (.ref cR)) (eRR : PySem.W.exmOne K (.ref cR) (.ref cR) = some true) (gR : ExG K cR iR) (nI : PySem.W.findIn K (.ref cR) "index" = some none) (nW : PySem.W.findIn K (.ref cR) "word" = some none) (mA_entries : MetA P w K mg base 2 CH "entries" ["self"] (spHEnts CH K)) : CalL P w K mg base (k + 3) "_law_told" (TTtold K CH cR) := by
  obtain ⟨oc, od, an, kV, doc, pm, cdg, ct, osl, lk, code⟩ := at_
  refine ⟨g, _, _, _, _, kV, doc, pm, cdg, ct, oc, an, od, osl, N__law_told, "_law_call", hm, kept, lk, code, ?_, sc__law_told, rfl, .inl rfl, by decide, by decide, ?_⟩
  · exact Binds.all fun us hl => match us, hl with | [_], _ => rfl
  intro A outer s H f cc q O Q tl gd0 hr act isF isC told
  have hu := hr.un
  have hu64 : (A.deeper (envOfC "_law_told" (defScope s__law_told) s.heap.objs.size g cdg)).units + 64 < cLine := by have := hr.un; omega
  have nd := sc__law_told.nd
  let tbE : WX → TS := fun W => tRet (tLc (iList K (tMeth CH (Str.ofString "entries") (spHEnts CH K) [] E0 (fun τ G Q => τ[0]? = some (some (V.ref f)) ∧ G f = some O ∧ G cc = some (CodeO cc q) ∧ tl (fun kl d G' => W kl d τ G') G Q) tNil)) (gName 2) tYes (tOp (rIxT K) (tVar 2) (tC (V.int 0))) [2])
  have bodyT : ∀ (W : WX) (pn : List (Addr × Obj)) (xe : Value → Shared → Prop), Takes ((zCx P w K mg base N__law_told "_law_told" (defScope s__law_told) g cdg A outer s H).nox.tr pn xe) W → PSs ((zCx P w K mg base N__law_told "_law_told" (defScope s__law_told) g cdg A outer s H).nox.tr pn xe) (tryOf (defBody s__law_told)) (tbE W) := fun W pn xe tk => (pss_one (ps_ret (pe_lc (own := [("_law_row", 2)]) (g := (gName 2)) (tt := tYes) rfl nd (pi_list (pe_mtA0 mA_entries hr (by omega) (act W pn xe _ _ tk))) (blkOk_by (N := N__law_told) (sc := defScope s__law_told) (by decide +kernel)) (fun _ _ _ _ _ => (pg_name (i := 2) nd rfl (Or.inl rfl))) (fun _ _ _ _ _ => pts_nil) (fun _ _ _ _ _ => (pe_ix (ix_tupK K) (pv 2) pe_int (fun _ _ => rfl))))))
  refine ⟨_, (pss_one (ps_try_as (i := 1) rfl rfl nd rfl rfl ⟨rfl, by decide, .inl mR⟩ takes0 (fun W pn xe tk _ => (bodyT W pn xe tk))
      (fun a oe cls d pn hz hf => (pss_one (ps_ret (pe_tup (pa_cons (pe_suF K hz hf (pv 1)) (pa_cons (pe_suF K hz hf (pv 1)) pa_nil)))))))), ?_⟩
  refine (show tRet (tLc (iList K (tMeth CH (Str.ofString "entries") (spHEnts CH K) [] E0 (fun τ G Q => τ[0]? = some (some (V.ref f)) ∧ G f = some O ∧ G cc = some (CodeO cc q) ∧ tl (fun kl d G' => _) G Q) tNil)) (gName 2) tYes (tOp (rIxT K) (tVar 2) (tC (V.int 0))) [2]) _ _ _ from ?_)
  walk_at "rd"
  refine r_meth ?_
  refine ⟨rfl, isF, isC, told _ _ ?_ ?_⟩
  · intro D i wd G hD kq
    refine ⟨true, eRR, fun _ y hy => ?_, fun h => Bool.noConfusion h⟩
    walk_at "rd"
    refine ⟨.ref y, rfl, cR, iR, D, _, .int i, gR, nI, rfl, rfl, rfl, hD, rfl, ?_⟩
    refine ⟨.ref y, rfl, cR, iR, D, _, .str wd, gR, nW, rfl, rfl, rfl, hD, rfl, ?_⟩
    refine ⟨(show 2 ≤ sizeLine by decide), fun p hp => ?_⟩
    exact kq p _ hp (same_new hp) upd_same
  · intro x h G hx hl kq
    obtain ⟨dx, R9, T9, F9, vs9, ps9, qs9, gH⟩ := id hx
    refine ⟨x, dx, _, rfl, gH.ob, rfl, r_nil ⟨x, h, rfl, hx, fun E vs H1 nE e1 gE pe => ?_⟩⟩
    refine ⟨E, rfl, ⟨_, SqL.of gE⟩, ?_⟩
    intro D hD
    have hvl : vs.length = h.rows.length := Paired.length pe
    refine lc_it (walk_list (xs := vs)) (fun i H' => Same H1 H' ∧ H' D = some (.lst ((h.rows.take i).map fun q => V.str q.1))) ⟨same_new hD, upd_same⟩ (fun i H' _ ⟨e, _⟩ => SqL.of (e _ _ gE)) ?_ ?_
    · rintro i v Hc H' hi ⟨e', hb'⟩ ⟨rfl, hv⟩
      obtain ⟨⟨z, y⟩, hq, e9, u9, rfl, hs9, _⟩ := paired_at pe hv
      have hs9' := sqT_same e' hs9
      have hil : i < h.rows.length := by
        obtain ⟨hlt, _⟩ := List.getElem?_eq_some_iff.mp hq
        exact hlt
      walk_at "rd"
      refine ⟨rfl, ?_⟩
      unfold tYes
      dsimp only
      rw [if_pos rfl]
      walk_at "rd"
      refine ⟨_, hb', Nat.lt_of_le_of_lt (by rw [List.length_map, List.length_take]; omega : _ ≤ 1000) (by decide), fun b o ho => by rw [upd_ne (ne_of_none ho hD)]; exact e' _ _ ho, ?_⟩
      rw [upd_same, take_snoc hq, List.map_append]
      rfl
    · rintro H3 ⟨e3, hb3⟩
      rw [hvl, List.take_length] at hb3
      have nD : G D = none := e1.free hD
      exact kq D _ nD (fun b o ho => e3 _ _ (e1 _ _ ho)) hb3
end
abbrev s__law_name : Stmt := topS 69
abbrev N__law_name : List Str := ["_law_source_here", "_law_parts", "_law_turn", "_law_some", "_law_name_here"]
theorem sc__law_name : FnScope N__law_name ["_law_source_here"] (defScope s__law_name) := ⟨rfl, rfl, rfl, by decide +kernel, rfl, by decide +kernel, by decide +kernel⟩
abbrev s__law_is_path : Stmt := topS 70
abbrev N__law_is_path : List Str := ["_law_name_here", "_law_part"]
theorem sc__law_is_path : FnScope N__law_is_path ["_law_name_here"] (defScope s__law_is_path) := ⟨rfl, rfl, rfl, by decide +kernel, rfl, by decide +kernel, by decide +kernel⟩
/-! ### drawn names -/
theorem slash47 : TL.tl ("/" : Str) = [47] := by decide +kernel
theorem spl_count : ∀ {l acc : List Nat}, (TL.spl [47] 0 acc l).length ≤ l.count 47 + 1
  | [], acc => by rw [TL.spl_nil]; exact Nat.le_refl _
  | c :: r, acc => by
    by_cases e : c = 47
    · subst e
      rw [TL.spl_hit (by rfl), List.length_cons, List.count_cons_self]
      have h := spl_count (l := r) (acc := [])
      exact Nat.succ_le_succ h
    · have hp : TL.pre [47] (c :: r) = false := by
        rw [← Bool.not_eq_true]
        intro h
        refine e ?_
        have h2 : ([c] == [47]) = true := h
        rw [beq_iff_eq] at h2
        injection h2
      rw [TL.spl_miss hp, List.count_cons_of_ne (fun h => e (by first | exact h | exact h.symm))]
      exact spl_count
theorem split_count (z : Str) : (Txt.split z "/").length ≤ (TL.tl z).count 47 + 1 := by
  have h := TL.split_spl z "/" (by rw [slash47]; decide) (TL.kind_ok (by decide +kernel))
  have h2 := congrArg List.length h
  rw [List.length_map, slash47] at h2
  rw [h2]
  exact spl_count
theorem count_jn : ∀ {ps : List Str}, (∀ p ∈ ps, 47 ∉ TL.tl p) → (TL.tl (Txt.join "/" ps)).count 47 ≤ ps.length
  | [], _ => Nat.le_of_eq (by decide +kernel)
  | [p], h => by
    have e : Txt.join "/" [p] = p := rfl
    rw [e, List.count_eq_zero_of_not_mem (h p List.mem_cons_self)]
    exact Nat.zero_le _
  | p :: q :: r, h => by
    have ih := count_jn (ps := q :: r) fun x hx => h x (List.mem_cons_of_mem _ hx)
    rw [TL.join_eq] at ih ⊢
    show (TL.tl (p ++ "/" ++ Str.join "/" (q :: r))).count 47 ≤ _
    rw [TL.tl_append, TL.tl_append, slash47, List.count_append, List.count_append, List.count_eq_zero_of_not_mem (h p List.mem_cons_self), show [47].count 47 = 1 from rfl, List.length_cons]
    omega
theorem mem_jn : ∀ {ps : List Str}, (∀ p ∈ ps, 122 ∉ TL.tl p) → 122 ∉ TL.tl (Txt.join "/" ps)
  | [], _ => by decide +kernel
  | [p], h => h p List.mem_cons_self
  | p :: q :: r, h => by
    have ih := mem_jn (ps := q :: r) fun x hx => h x (List.mem_cons_of_mem _ hx)
    rw [TL.join_eq] at ih ⊢
    show 122 ∉ TL.tl (p ++ "/" ++ Str.join "/" (q :: r))
    rw [TL.tl_append, TL.tl_append, slash47]
    intro hm
    rcases List.mem_append.mp hm with hm | hm
    · rcases List.mem_append.mp hm with hm | hm
      · exact h p List.mem_cons_self hm
      · exact absurd (List.mem_singleton.mp hm) (by decide)
    · exact ih hm
/-- a part as it is drawn -/
def ptN (v : V) : Prop := ∃ z : Str, v = .str z ∧ z.length ≤ 101 ∧ charsB z = true ∧ 47 ∉ TL.tl z ∧ 122 ∉ TL.tl z
def ptNB : V → Bool
  | .str z => decide (z.length ≤ 101) && charsB z && !decide (47 ∈ TL.tl z) && !decide (122 ∈ TL.tl z)
  | _ => false
theorem ptN_all {xs : List V} (h : xs.all ptNB = true) : ∀ v ∈ xs, ptN v := fun v hv => by
  have h1 := List.all_eq_true.mp h v hv
  cases v with
  | str z =>
    have h2 : (decide (z.length ≤ 101) && charsB z && !decide (47 ∈ TL.tl z) && !decide (122 ∈ TL.tl z)) = true := h1
    simp only [Bool.and_eq_true, decide_eq_true_eq, Bool.not_eq_true', decide_eq_false_iff_not] at h2
    exact ⟨z, rfl, h2.1.1.1, h2.1.1.2, h2.1.2, h2.2⟩
  | _ => cases h1
theorem cut_tl (z : Str) : ∃ n, n ≤ 250 ∧ TL.tl (cutS z none (some 250)) = (TL.tl z).take n := by
  refine ⟨HT.sIx z.length z.length (some 250) - HT.sIx z.length 0 none, ?_, ?_⟩
  · have h : HT.sIx z.length z.length (some 250) ≤ 250 := by rw [show (some (250 : Int)) = some ((250 : Nat) : Int) from rfl, HT.sIx_nat]; omega
    omega
  · show ((TL.tl z).drop (HT.sIx z.length 0 none)).take _ = _
    rw [show HT.sIx z.length 0 none = 0 from rfl, List.drop_zero]
theorem cut_name {z : Str} (h : charsB z = true) (ne : cutS z none (some 250) ≠ "") : nameB (cutS z none (some 250)) = true := by
  obtain ⟨n, hn, e⟩ := cut_tl z
  have hl : (cutS z none (some 250)).length = (TL.tl (cutS z none (some 250))).length := (TL.len_tl _).symm
  refine name_of ?_ ?_ ?_
  · rcases Nat.eq_zero_or_pos (cutS z none (some 250)).length with h0 | h0
    · refine absurd (TL.ext_tl ?_) ne
      rw [List.eq_nil_of_length_eq_zero (hl.symm.trans h0)]
      rfl
    · exact h0
  · rw [hl, e, List.length_take]
    omega
  · unfold charsB at h ⊢
    rw [List.all_eq_true] at h ⊢
    intro c hc
    refine h c (List.mem_of_mem_take (i := n) ?_)
    rw [← show TL.tl (cutS z none (some 250)) = (TL.tl z).take n from e]
    exact hc
section
variable {P : Program} {w : World} {K : PySem.W.Frag} {mg : Str → Option Value} {base : Heap}
def spLName : Sp := fun vs H Q _ => ∃ (a : Addr) (u : Nat), vs = [.ref a] ∧ SrcB u H a ∧ u ≤ 900000 ∧ ∀ (z : Str) H', nameB z = true → (aboveP z).length ≤ 10 → 122 ∉ TL.tl z → SrcB (u + 11) H' a → But a H H' → Q (.str z) H'
theorem ok_lname {f : Addr} {fd : FuncData} {k : Nat} (F : Fun K "_law_name" "_law_name" s__law_name f fd) (m1 : mg "range" = none) (c_draw : CalT P w K mg base 2 "_law_draw" spDraw) :
    FnOk P w K mg base CX0 (k + 3) f fd ["_law_source_here"] spLName := by
  refine F.ok sc__law_name (fun vs H Q E h => ?_) (fun cdv A outer s H vs Q E hr h => ?_)
  · obtain ⟨a, u, rfl, _⟩ := h
    rfl
  · obtain ⟨a, u, rfl, hs, hu9, q⟩ := h
    have hu := hu_of hr
    have nd := sc__law_name.nd
    refine ⟨_, (pss_cons (ps_set (i := 1) nd rfl (Or.inl rfl) (pe_lst pa_nil))
      (pss_cons (ps_for PassesOwn.never rfl (pi_range1 (by rfl) (by assumption) (pa_cons (pe_op op_add pe_int (pe_cc c_draw hr (by omega) (by rfl) (pa_cons (pv 0) (pa_cons pe_int pa_nil)))) pa_nil)) (pg_name (i := 2) nd rfl (Or.inl rfl))
        (pss_cons (ps_set (i := 3) nd rfl (Or.inl rfl) (pe_lst (pa_cons pe_str (pa_cons pe_str (pa_cons pe_str (pa_cons pe_str (pa_cons pe_str (pa_cons pe_str (pa_cons pe_str (pa_cons pe_str (pa_cons pe_str (pa_cons pe_str (pa_cons pe_str pa_nil)))))))))))))
      (pss_cons (ps_expr (pe_bm PySem.F.plainAttrs_list PySem.F.slot_list_append PySem.F.type_list_append mt_append (pv 3) (pa_cons (pe_op op_mulS pe_str (pe_ix (ix_listK K) (pe_lst (pa_cons pe_int (pa_cons pe_int (pa_cons pe_int (pa_cons pe_int pa_nil))))) (pe_cc c_draw hr (by omega) (by rfl) (pa_cons (pv 0) (pa_cons pe_int pa_nil))) (fun _ _ => rfl))) pa_nil)))
      (pss_one (ps_expr (pe_bm PySem.F.plainAttrs_list PySem.F.slot_list_append PySem.F.type_list_append mt_append (pv 1) (pa_cons (pe_ix (ix_listK K) (pv 3) (pe_cc c_draw hr (by omega) (by rfl) (pa_cons (pv 0) (pa_cons pe_int pa_nil))) (fun _ _ => rfl)) pa_nil)))))))
      (pss_cons (ps_set (i := 4) nd rfl (Or.inl rfl) (pe_slice sl_str (pe_bmK K PySem.F.plainAttrs_str PySem.F.slot_str_join PySem.F.type_str_join (mt_joinK K) pe_str (pa_cons (pv 1) pa_nil)) po_none (po_some pe_int)))
      (pss_one (ps_ret (pe_ifExp (pt_cmpR op_ne (pv 4) pe_str (nomark _)) (pv 4) pe_str)))))), ?_⟩
    walk_at "rd"
    rename_i L hL
    refine sp_draw (hs.new hL) (by omega) (by decide) (by decide) fun d H1 d0 d1 hs1 hb1 => ?_
    have nL : L ≠ a := hs.ne hL
    have gL0 := hb1 _ _ nL upd_same
    obtain ⟨n, rfl⟩ := Int.eq_ofNat_of_zero_le d0
    walk_at "rd"
    refine for_it (walk_range (lo := 0) (n := _)) (fun i σ H' => ∃ v2 v3 v4, σ = [some (.ref a), some (.ref L), v2, v3, v4] ∧ SrcB (u + 1 + 2 * i) H' a ∧ (∀ b o, b ≠ a → b ≠ L → H1 b = some o → H' b = some o) ∧ ∃ ps : List Str, H' L = some (.lst (ps.map V.str)) ∧ ps.length = i ∧ ∀ p ∈ ps, p.length ≤ 101 ∧ charsB p = true ∧ 47 ∉ TL.tl p ∧ 122 ∉ TL.tl p) ?_ (fun _ _ _ _ _ => True.intro) ?_ ?_
    · exact ⟨none, none, none, rfl, hs1, (fun _ _ _ _ h => h), [], gL0, rfl, (fun _ h => nomatch h)⟩
    · rintro i x σ H2 H' hi ⟨v2, v3, v4, rfl, s2, b2, ps, gL, hpl, hps⟩ ⟨rfl, hx⟩
      have hi5 : i < 5 := by omega
      refine r_gname ?_
      walk_at "rd"
      rename_i L3 hL3 L4 hL4
      have e34 := (same_new (o := HO.lst [V.str "a", V.str "..a", V.str "a..", V.str "...", V.str ".", V.str "..", V.str "", V.str "-", V.str "_", V.str ".a.", V.str "0"]) hL3).trans (same_new (o := HO.lst [V.int 98, V.int 99, V.int 100, V.int 101]) hL4)
      have s34 := s2.same e34
      have g3 : upd (upd H' L3 (HO.lst [V.str "a", V.str "..a", V.str "a..", V.str "...", V.str ".", V.str "..", V.str "", V.str "-", V.str "_", V.str ".a.", V.str "0"])) L4 (HO.lst [V.int 98, V.int 99, V.int 100, V.int 101]) L3 = some (HO.lst [V.str "a", V.str "..a", V.str "a..", V.str "...", V.str ".", V.str "..", V.str "", V.str "-", V.str "_", V.str ".a.", V.str "0"]) := upd_old hL4 upd_same
      have g4 : upd (upd H' L3 (HO.lst [V.str "a", V.str "..a", V.str "a..", V.str "...", V.str ".", V.str "..", V.str "", V.str "-", V.str "_", V.str ".a.", V.str "0"])) L4 (HO.lst [V.int 98, V.int 99, V.int 100, V.int 101]) L4 = some (HO.lst [V.int 98, V.int 99, V.int 100, V.int 101]) := upd_same
      have n3 : L3 ≠ a := s2.ne hL3
      have n4 : L4 ≠ a := (s2.same (same_new hL3)).ne hL4
      have n3L : L3 ≠ L := (ne_of_none gL hL3).symm
      have f3 : H' L3 = none := hL3
      generalize upd (upd H' L3 (HO.lst [V.str "a", V.str "..a", V.str "a..", V.str "...", V.str ".", V.str "..", V.str "", V.str "-", V.str "_", V.str ".a.", V.str "0"])) L4 (HO.lst [V.int 98, V.int 99, V.int 100, V.int 101]) = H3 at e34 s34 g3 g4 ⊢
      refine sp_draw s34 (by omega) (by decide) (by decide) fun d H4 d0 d1 s4 b4 => ?_
      obtain ⟨v, hv, hat⟩ := pick_at (xs := [V.int 98, V.int 99, V.int 100, V.int 101]) d0 d1
      refine r_ixL (SqL.of (b4 _ _ n4 g4)) hat ?_
      obtain ⟨k9, rfl, hk0, hk1⟩ : ∃ k : Int, v = .int k ∧ 98 ≤ k ∧ k ≤ 101 := by
        simp only [List.mem_cons, List.not_mem_nil, or_false] at hv
        rcases hv with rfl | rfl | rfl | rfl <;> exact ⟨_, rfl, by decide, by decide⟩
      have g3' := b4 _ _ n3 g3
      walk_at "rd"
      have gL3 := e34 _ _ gL
      have nLL : L ≠ a := nL
      have gL4 := b4 _ _ nLL gL3
      have all : ([V.str "a", V.str "..a", V.str "a..", V.str "...", V.str ".", V.str "..", V.str "", V.str "-", V.str "_", V.str ".a.", V.str "0"] ++ [V.str (repZ "q" k9)]).all ptNB = true := by
        have hk : k9 = 98 ∨ k9 = 99 ∨ k9 = 100 ∨ k9 = 101 := by omega
        rcases hk with rfl | rfl | rfl | rfl <;> decide +kernel
      have g5 : upd H4 L3 (HO.lst ([V.str "a", V.str "..a", V.str "a..", V.str "...", V.str ".", V.str "..", V.str "", V.str "-", V.str "_", V.str ".a.", V.str "0"] ++ [V.str (repZ "q" k9)])) L3 = some (HO.lst ([V.str "a", V.str "..a", V.str "a..", V.str "...", V.str ".", V.str "..", V.str "", V.str "-", V.str "_", V.str ".a.", V.str "0"] ++ [V.str (repZ "q" k9)])) := upd_same
      have gL5 : upd H4 L3 (HO.lst ([V.str "a", V.str "..a", V.str "a..", V.str "...", V.str ".", V.str "..", V.str "", V.str "-", V.str "_", V.str ".a.", V.str "0"] ++ [V.str (repZ "q" k9)])) L = some (.lst (ps.map V.str)) := by rw [upd_ne n3L.symm]; exact gL4
      have s5 : SrcB (u + 1 + 2 * i + 1) (upd H4 L3 (HO.lst ([V.str "a", V.str "..a", V.str "a..", V.str "...", V.str ".", V.str "..", V.str "", V.str "-", V.str "_", V.str ".a.", V.str "0"] ++ [V.str (repZ "q" k9)]))) a := by
        obtain ⟨x1, x2, x3, x4, x5⟩ := s4
        exact ⟨x1, x2, x3, by rw [upd_ne n3.symm]; exact x4, x5⟩
      have b5 : ∀ b o, b ≠ a → H' b = some o → upd H4 L3 (HO.lst ([V.str "a", V.str "..a", V.str "a..", V.str "...", V.str ".", V.str "..", V.str "", V.str "-", V.str "_", V.str ".a.", V.str "0"] ++ [V.str (repZ "q" k9)])) b = some o := fun b o nb h => by
        rw [upd_ne (ne_of_none h f3)]
        exact b4 _ _ nb (e34 _ _ h)
      have l12 : ([V.str "a", V.str "..a", V.str "a..", V.str "...", V.str ".", V.str "..", V.str "", V.str "-", V.str "_", V.str ".a.", V.str "0"] ++ [V.str (repZ "q" k9)]).length = 12 := rfl
      generalize ([V.str "a", V.str "..a", V.str "a..", V.str "...", V.str ".", V.str "..", V.str "", V.str "-", V.str "_", V.str ".a.", V.str "0"] ++ [V.str (repZ "q" k9)]) = L12 at all g5 gL5 s5 b5 l12 ⊢
      generalize upd H4 L3 (HO.lst L12) = H5 at g5 gL5 s5 b5 ⊢
      refine ⟨.inl ⟨rfl, _, SqL.of gL5⟩, ?_⟩
      walk_at "rd"
      refine sp_draw s5 (by omega) (by decide) (by decide) fun d2 H6 d20 d21 s6 b6 => ?_
      obtain ⟨v, hv2, hat2⟩ := pick_at (xs := L12) d20 (by rw [l12]; exact d21)
      obtain ⟨z, rfl, z1, z2, z3, z4⟩ := ptN_all all v hv2
      refine r_ixL (SqL.of (b6 _ _ n3 g5)) hat2 ?_
      walk_at "rd"
      refine ⟨L, _, _, rfl, rfl, b6 _ _ nLL gL5, Nat.lt_of_le_of_lt (by rw [List.length_map]; omega : _ ≤ 10) (by decide), ?_⟩
      refine ⟨_, _, _, rfl, ?_, fun b o nb nl h => by rw [upd_ne nl]; exact b6 _ _ nb (b5 _ _ nb (b2 _ _ nb nl h)), ps ++ [z], by rw [upd_same, List.map_append]; rfl, by rw [List.length_append, hpl]; rfl, fun p hp => ?_⟩
      · obtain ⟨x1, x2, x3, x4, x5⟩ := s6.mono (show u + 1 + 2 * i + 1 + 1 ≤ u + 1 + 2 * (i + 1) by omega)
        exact ⟨x1, x2, x3, by rw [upd_ne nLL.symm]; exact x4, x5⟩
      · rcases List.mem_append.mp hp with hp | hp
        · exact hps p hp
        · rw [List.mem_singleton.mp hp]
          exact ⟨z1, z2, z3, z4⟩
    · rintro σ H2 ⟨v2, v3, v4, rfl, s2, b2, ps, gL, hpl, hps⟩
      walk_at "rd"
      refine ⟨rfl, ?_⟩
      walk_at "rd"
      obtain ⟨z, r, rfl⟩ : ∃ z r, ps = z :: r := by
        cases ps with
        | nil => exact absurd hpl (by show ¬ 0 = _; omega)
        | cons z r => exact ⟨z, r, rfl⟩
      have hpl : r.length + 1 = (1 + (n : Int)).toNat := hpl
      have hr4 : r.length ≤ 4 := by omega
      have gz := glue_ok r z (hps z List.mem_cons_self).2.1 fun y hy => (hps y (List.mem_cons_of_mem _ hy)).2.1
      have hz1 := (hps z List.mem_cons_self).1
      have hsum := sum_lens (m := 101) fun y hy => (hps y (List.mem_cons_of_mem z hy)).1
      have hsl : ((z :: r).map (·.length)).sum ≤ 101 * 5 := by
        have h2 : ∀ l : List Str, (∀ y ∈ l, y.length ≤ 101) → (l.map (·.length)).sum ≤ 101 * l.length := fun l => by
          induction l with
          | nil => exact fun _ => Nat.le_refl _
          | cons y l ih =>
            intro h
            have := ih fun x hx => h x (List.mem_cons_of_mem _ hx)
            have := h y List.mem_cons_self
            rw [List.map_cons, List.sum_cons, List.length_cons]
            omega
        have := h2 (z :: r) fun y hy => (hps y hy).1
        rw [List.length_cons] at this
        omega
      have e3 : Str.length "/" = 1 := by decide +kernel
      refine ⟨"/", L, z :: r, rfl, rfl, .inl (SqL.of gL), by rw [e3, List.length_cons]; omega, ?_⟩
      have e : Txt.join "/" (z :: r) = ⟨List.foldl (fun a p => a ++ ("/" : Str).cps ++ p.cps) z.cps r⟩ := rfl
      have ch : charsB (Txt.join "/" (z :: r)) = true := by rw [e]; exact gz.1
      have ln : (Txt.join "/" (z :: r)).length ≤ 1000 := by rw [e]; have := gz.2; omega
      have cj := count_jn (ps := z :: r) fun p hp => (hps p hp).2.2.1
      have mj := mem_jn (ps := z :: r) fun p hp => (hps p hp).2.2.2
      generalize Txt.join "/" (z :: r) = z0 at ch ln cj mj
      have cj : (TL.tl z0).count 47 ≤ r.length + 1 := cj
      walk_at "rd"
      have cz : (TL.tl (cutS z0 none (some 250))).count 47 ≤ r.length + 1 := by
        obtain ⟨m, _, e⟩ := cut_tl z0
        rw [e]
        exact Nat.le_trans ((List.take_sublist _ _).count_le 47) cj
      have b2' : But a H H2 := fun b o nb h => b2 b o nb (ne_of_none h hL) (hb1 _ _ nb (upd_old hL h))
      rw [dec_strV]
      by_cases ne : cutS z0 none (some 250) = ""
      · rw [decide_eq_true ne]
        walk_at "rd"
        exact q _ _ (by decide +kernel) (by decide +kernel) (by decide +kernel) (s2.mono (by omega)) b2'
      · rw [decide_eq_false ne]
        walk_at "rd"
        refine q _ _ (cut_name ch ne) ?_ (fun h => by obtain ⟨m, _, e⟩ := cut_tl z0; rw [e] at h; exact mj (List.mem_of_mem_take h)) (s2.mono (by omega)) b2'
        have h1 := split_count (cutS z0 none (some 250))
        unfold aboveP
        rw [List.length_map, List.length_range]
        omega
end
/-! ### the law's own is_path -/
def partsB (z : Str) : Bool := !(Txt.split z "/").any noPart
section
variable {P : Program} {w : World} {K : PySem.W.Frag} {mg : Str → Option Value} {base : Heap}
def spLIsPath : Sp := fun vs H Q _ => ∃ z : Str, vs = [.str z] ∧ z.length ≤ 1000 ∧ ∀ H', Same H H' → Q (.bl (partsB z)) H'
theorem sp_lispath {z : Str} {H : Hp} {Q : VK} {E : XK} (hz : z.length ≤ 1000) (k : ∀ H', Same H H' → Q (.bl (partsB z)) H') : spLIsPath ([.str z] ++ []) H Q E := ⟨z, rfl, hz, k⟩
theorem ok_lispath {f : Addr} {fd : FuncData} {k : Nat} (F : Fun K "_law_is_path" "_law_is_path" s__law_is_path f fd) (m1 : mg "all" = none) : FnOk P w K mg base CX0 (k + 2) f fd ["_law_name_here"] spLIsPath := by
  refine F.ok sc__law_is_path (fun vs H Q E h => ?_) (fun cdv A outer s H vs Q E hr h => ?_)
  · obtain ⟨z, rfl, _⟩ := h
    rfl
  · obtain ⟨z, rfl, hz, q⟩ := h
    have hu := hu_of hr
    have nd := sc__law_is_path.nd
    refine ⟨_, (pss_one (ps_ret (pe_callB (call_allK K) (by rfl) (by assumption) (by decide +kernel) (pa_cons (pe_lc (own := [("_law_part", 1)]) (g := (gName 1)) (tt := tYes) rfl nd (pi_list (pe_splitN (pe_split (pv 0) pe_str))) (blkOk_by (N := N__law_is_path) (sc := defScope s__law_is_path) (by decide +kernel)) (fun _ _ _ _ _ => (pg_name (i := 1) nd rfl (Or.inl rfl))) (fun _ _ _ _ _ => pts_nil) (fun _ _ _ _ _ => (pe_cmpR (op_notInK K) (pv 1) (pe_tup (pa_cons pe_str (pa_cons pe_str (pa_cons pe_str pa_nil)))) (by rfl)))) pa_nil)))), ?_⟩
    walk_at "rd"
    have hz' : z.length + 2 ≤ sizeLine := Nat.le_trans (Nat.add_le_add_right hz 2) (by decide)
    have hn : (Txt.split z "/").length ≤ 1002 := Nat.le_trans (PyProof.Rows.split_le z "/") (by omega)
    refine r_split (by decide) hz' fun L hL => ?_
    refine ⟨L, rfl, ⟨_, SqL.of upd_same⟩, ?_⟩
    intro D hD
    refine lc_map (cs := Txt.split z "/") (enc := V.str) (f := fun p => V.bl (!noPart p)) walk_list hD (Nat.lt_of_le_of_lt hn (by decide)) (fun H' e => SqL.of (e _ _ upd_same)) (fun x => rfl) ?_ ?_
    · intro p hp H' e Q' k'
      walk_at "rd"
      rename_i t0 ht0
      refine ⟨t0, _, rfl, .inr (SqT.of upd_same), rfl, rfl, ?_⟩
      show Q' (.bl (!inV (.str p) [.str "", .str ".", .str ".."])) _
      rw [show inV (.str p) [.str "", .str ".", .str ".."] = noPart p by simp [inV, noPart, eqV]]
      exact k' _ (same_new ht0)
    · intro H' e hl
      walk_at "rd"
      refine r_all (bs := (Txt.split z "/").map fun p => !noPart p) (by rw [List.map_map]; exact SqL.of hl) ?_
      show Q _ _
      rw [show ((Txt.split z "/").map fun p => !noPart p).all id = partsB z by unfold partsB; rw [List.all_map, List.not_any_eq_all_not]; rfl]
      exact q _ ((same_new hL).trans e)
end
open LamX (Tabs TabB ExtN)
/-! ### a name's prefixes, and the word that unpacking tells, pure -/
theorem jn_app : ∀ {xs ys : List Str}, xs ≠ [] → ys ≠ [] → TL.tl (Txt.join "/" (xs ++ ys)) = TL.tl (Txt.join "/" xs) ++ 47 :: TL.tl (Txt.join "/" ys)
  | [], _, h, _ => absurd rfl h
  | [x], [], _, h => absurd rfl h
  | [x], y :: ys, _, _ => by
    rw [TL.join_eq, TL.join_eq, TL.join_eq]
    show TL.tl (x ++ "/" ++ Str.join "/" (y :: ys)) = TL.tl x ++ _
    rw [TL.tl_append, TL.tl_append, slash47, List.append_assoc]
    rfl
  | x :: x2 :: xs, ys, _, hy => by
    have ih := jn_app (xs := x2 :: xs) (ys := ys) (by simp) hy
    rw [TL.join_eq, TL.join_eq, TL.join_eq] at ih ⊢
    show TL.tl (x ++ "/" ++ Str.join "/" ((x2 :: xs) ++ ys)) = TL.tl (x ++ "/" ++ Str.join "/" (x2 :: xs)) ++ _
    rw [TL.tl_append, TL.tl_append, TL.tl_append, TL.tl_append, ih]
    simp only [List.append_assoc]
theorem jn_mem {c : Nat} : ∀ {ps : List Str} {p : Str}, p ∈ ps → c ∈ TL.tl p → c ∈ TL.tl (Txt.join "/" ps)
  | [q], p, hp, hc => by
    rw [List.mem_singleton] at hp
    subst hp
    exact hc
  | q :: r :: ps, p, hp, hc => by
    have e := jn_app (xs := [q]) (ys := r :: ps) (by simp) (by simp)
    rw [show [q] ++ r :: ps = q :: r :: ps from rfl] at e
    rw [e]
    rcases List.mem_cons.mp hp with rfl | hp
    · exact List.mem_append.mpr (.inl hc)
    · exact List.mem_append.mpr (.inr (List.mem_cons_of_mem _ (jn_mem hp hc)))
/-- the paths above, and the path -/
def dueP (z : Str) : List Str := (List.range (Txt.split z "/").length).map fun i => Txt.join "/" ((Txt.split z "/").take (i + 1))
theorem join_self (z : Str) : Txt.join "/" (Txt.split z "/") = z := by rw [TL.join_eq]; exact StrLaws.join_split z "/"
theorem due_eq (z : Str) : dueP z = aboveP z ++ [z] := by
  have hn := PyProof.Rows.split_pos z "/"
  unfold dueP aboveP
  have e : (Txt.split z "/").length = ((Txt.split z "/").length - 1) + 1 := by omega
  rw [show (List.range (Txt.split z "/").length) = List.range ((Txt.split z "/").length - 1) ++ [(Txt.split z "/").length - 1] from (congrArg List.range e).trans List.range_succ, List.map_append]
  congr 1
  show [Txt.join "/" ((Txt.split z "/").take ((Txt.split z "/").length - 1 + 1))] = [z]
  rw [← e, List.take_length, join_self]
theorem due_nd (z : Str) : (dueP z).Nodup := by
  unfold dueP List.Nodup
  rw [List.pairwise_map]
  refine List.Pairwise.imp_of_mem (R := (· < ·)) (fun {a b} ha hb h e => ?_) List.pairwise_lt_range
  have hb := List.mem_range.mp hb
  have hs : (Txt.split z "/").take (b + 1) = (Txt.split z "/").take (a + 1) ++ ((Txt.split z "/").take (b + 1)).drop (a + 1) := by
    have := (List.take_append_drop (a + 1) ((Txt.split z "/").take (b + 1))).symm
    rw [List.take_take, Nat.min_eq_left (by omega)] at this
    exact this
  have h1 : (Txt.split z "/").take (a + 1) ≠ [] := fun h0 => by
    have := congrArg List.length h0
    rw [List.length_take] at this
    simp only [List.length_nil] at this
    omega
  have h2 : ((Txt.split z "/").take (b + 1)).drop (a + 1) ≠ [] := fun h0 => by
    have := congrArg List.length h0
    rw [List.length_drop, List.length_take] at this
    simp only [List.length_nil] at this
    omega
  have e2 : (TL.tl (Txt.join "/" ((Txt.split z "/").take (a + 1)))).length = (TL.tl (Txt.join "/" ((Txt.split z "/").take (b + 1)))).length := congrArg (fun x => (TL.tl x).length) e
  rw [hs, jn_app h1 h2, List.length_append, List.length_cons] at e2
  omega
theorem due_122 {z : Str} (h : 122 ∉ TL.tl z) : ∀ p ∈ dueP z, 122 ∉ TL.tl p := fun p hp => by
  unfold dueP at hp
  obtain ⟨i, _, rfl⟩ := List.mem_map.mp hp
  refine mem_jn fun q hq hc => h ?_
  rw [← join_self z]
  exact jn_mem (List.mem_of_mem_take hq) hc
theorem zz122 : 122 ∈ TL.tl ("zz" : Str) := by decide +kernel
theorem zz_above : aboveP "zz" = [] := by decide +kernel
theorem zz_name : nameB "zz" = true := by decide +kernel
theorem zz_parts : partsB "zz" = true := by decide +kernel
theorem due_zz {z : Str} (h : 122 ∉ TL.tl z) : ("zz" : Str) ∉ dueP z := fun hp => due_122 h _ hp zz122
abbrev T00 : Trd := ⟨[], [], 0⟩
theorem kind_no {l : List (Str × Thg)} {p : Str} (h : ¬ (look l p).isSome = true) : kindA l p = "" := by
  unfold kindA
  cases e : look l p with
  | none => rfl
  | some x => rw [e] at h; exact absurd rfl h
theorem word_no {t : Trd} {m : Mem} (h : partsB m.nm = false) : wordP t m = "name" := by
  unfold wordP pathB
  rw [show (!(Txt.split m.nm "/").any noPart) = false from h, Bool.and_false, if_pos rfl]
theorem wordP_eq {t : Trd} {m : Mem} (hn : nameB m.nm = true) (hp : partsB m.nm = true) (up : ∀ p ∈ aboveP m.nm, kindA t.things p = "") : wordP t m = refP t.things m.nm m m.tgt := by
  unfold wordP pathB
  rw [show (!(Txt.split m.nm "/").any noPart) = true from hp, hn, Bool.and_true, if_neg (by decide), if_neg]
  rw [Bool.not_eq_false, List.all_eq_true]
  intro p h
  unfold okUp
  rw [up p h]
  decide +kernel
theorem refP_yes {l : List (Str × Thg)} {z tg : Str} {m : Mem} (hk : kindA l z = "") (hl : m.isLnk = true → kindA l tg = "file") : refP l z m tg = "" := by
  unfold refP
  rw [hk]
  split
  · rw [if_neg (by decide +kernel)]
  · rw [if_neg (by decide +kernel), if_neg]
    intro h
    rw [Bool.and_eq_true] at h
    rw [hl h.1] at h
    exact absurd h.2 (by decide +kernel)
theorem refP_tgt {l : List (Str × Thg)} {z tg : Str} {m : Mem} (hk : kindA l z = "") (hd : m.isDir = false) (hl : m.isLnk = true) (ht : kindA l tg = "") : refP l z m tg = "target" := by
  unfold refP
  rw [hk, hd, hl, ht, if_neg (by decide), if_neg (by decide +kernel), if_pos (by decide +kernel)]
theorem word_yes {t : Trd} {m : Mem} (hn : nameB m.nm = true) (hp : partsB m.nm = true) (up : ∀ p ∈ aboveP m.nm, kindA t.things p = "") (hk : kindA t.things m.nm = "") (hl : m.isLnk = true → kindA t.things m.tgt = "file") : wordP t m = "" := (wordP_eq hn hp up).trans (refP_yes hk hl)
theorem keys_put {t : Trd} {m : Mem} {p : Str} : (look (putM t m).things p).isSome = true ↔ (look t.things p).isSome = true ∨ p ∈ dueP m.nm := by
  rw [putM_th, due_eq, List.mem_append, List.mem_singleton]
  by_cases e : p = m.nm
  · rw [if_pos e]
    exact ⟨fun _ => .inr (.inr e), fun _ => rfl⟩
  · rw [if_neg e]
    by_cases a : p ∈ aboveP m.nm
    · rw [if_pos a]
      exact ⟨fun _ => .inr (.inl a), fun _ => rfl⟩
    · rw [if_neg a]
      exact ⟨.inl, fun h => h.elim id fun h => h.elim (fun h => absurd h a) fun h => absurd h e⟩
theorem kind_put {t : Trd} {z : Str} {b i : Int} {ns : List Int} : kindA (putM t (.file z b i ns)).things z = "file" := by
  unfold kindA
  rw [putM_th, if_pos (show z = (Mem.file z b i ns).nm from rfl)]
  rfl
theorem look0 {p : Str} (h : (look T00.things p).isSome = true) : False := Bool.noConfusion h
/-- what the law does: one member, then a link beside it -/
theorem keys1 {m : Mem} {p : Str} : (look (putAll T00 [m]).things p).isSome = true ↔ p ∈ dueP m.nm := by
  show (look (putM T00 m).things p).isSome = true ↔ _
  rw [keys_put]
  exact ⟨fun h => h.elim (fun h => (look0 h).elim) id, .inr⟩
theorem keys2 {m n : Mem} {p : Str} : (look (putAll T00 [m, n]).things p).isSome = true ↔ p ∈ dueP m.nm ∨ p ∈ dueP n.nm := by
  show (look (putM (putM T00 m) n).things p).isSome = true ↔ _
  rw [keys_put, keys_put]
  exact ⟨fun h => h.elim (fun h => h.elim (fun h => (look0 h).elim) .inl) .inr, fun h => h.elim (fun h => .inl (.inr h)) .inr⟩
theorem due_one : dueP "zz" = [("zz" : Str)] := by decide +kernel
theorem one_good {m : Mem} (hn : nameB m.nm = true) (hp : partsB m.nm = true) (hl : m.isLnk = false) : ∀ i x, [m][i]? = some x → wordP (putAll T00 ([m].take i)) x = ""
  | 0, x, h => by
    cases h
    exact word_yes hn hp (fun _ _ => rfl) rfl fun h => absurd (hl.symm.trans h) (by decide)
  | i + 1, x, h => by cases h
theorem two_good {m n : Mem} (h1 : wordP T00 m = "") (h2 : wordP (putM T00 m) n = "") : ∀ i x, [m, n][i]? = some x → wordP (putAll T00 ([m, n].take i)) x = ""
  | 0, x, h => by cases h; exact h1
  | 1, x, h => by cases h; exact h2
  | i + 2, x, h => by cases h
theorem word_B1 : wordP T00 (.file "zz" 420 0 [2]) = "" := word_yes zz_name zz_parts (fun _ _ => rfl) rfl fun h => absurd h (by decide)
theorem due_self (z : Str) : z ∈ dueP z := by rw [due_eq]; exact List.mem_append.mpr (.inr List.mem_cons_self)
theorem up_due {z p : Str} (h : p ∈ aboveP z) : p ∈ dueP z := by rw [due_eq]; exact List.mem_append.mpr (.inl h)
theorem word_B2 {z : Str} (hn : nameB z = true) (hp : partsB z = true) (hz : 122 ∉ TL.tl z) : wordP (putM T00 (.file "zz" 420 0 [2])) (.lnk z 420 0 "zz") = "" := by
  have no : ∀ p ∈ dueP z, kindA (putM T00 (.file "zz" 420 0 [2])).things p = "" := fun p hp => kind_no fun h => by
    rw [keys_put] at h
    rcases h with h | h
    · exact (look0 h).elim
    · rw [show (Mem.file "zz" 420 0 [2]).nm = "zz" from rfl, due_one, List.mem_singleton] at h
      exact due_zz hz (h ▸ hp)
  exact word_yes hn hp (fun p h => no p (up_due h)) (no z (due_self z)) fun _ => kind_put
theorem word_C2 {z : Str} (hz : 122 ∉ TL.tl z) : wordP (putM T00 (.file z 420 0 [2])) (.lnk "zz" 420 0 z) = "" := by
  refine word_yes zz_name zz_parts (fun p h => ?_) (kind_no fun h => ?_) fun _ => kind_put
  · rw [show (Mem.lnk "zz" 420 0 z).nm = "zz" from rfl, zz_above] at h
    exact absurd h List.not_mem_nil
  · rw [keys_put] at h
    rcases h with h | h
    · exact (look0 h).elim
    · exact due_zz hz h
theorem word_C0 {z : Str} : wordP T00 (.lnk "zz" 420 0 z) = "target" :=
  (wordP_eq (m := .lnk "zz" 420 0 z) zz_name zz_parts (fun _ _ => rfl)).trans (refP_tgt rfl rfl rfl rfl)
theorem dueZ_nd {z : Str} (hz : 122 ∉ TL.tl z) : (dueP z ++ [("zz" : Str)]).Nodup := by
  rw [List.nodup_append]
  refine ⟨due_nd z, by decide +kernel, fun a ha b hb e => ?_⟩
  rw [List.mem_singleton] at hb
  subst hb
  exact due_zz hz (e ▸ ha)
theorem memZ {z p : Str} : p ∈ dueP z ++ [("zz" : Str)] ↔ p ∈ dueP z ∨ p ∈ dueP "zz" := by rw [List.mem_append, due_one]
/-! ### a lambda of unpacking, told -/
section
variable {K : PySem.W.Frag} {c : Cs} {CT CH cR : Addr} {T : List (Addr × Str)} {σ : L2.St} {H : Hp} {Q : VK} {qn : Str} {pa : Arguments} {bd : Expr} {sc : Scope} {cl : List (Str × Addr)} {te : TE} {ms : List Mem}
def tTold (K : PySem.W.Frag) (CT CH : Addr) (c : Cs) (cR : Addr) (T : List (Addr × Str)) (qn : Str) (pa : Arguments) (bd : Expr) (sc : Scope) (cl : List (Str × Addr)) (te : TE) : TE :=
  tCallT (tLamV T qn pa bd sc cl) qn pa bd sc cl (TTtold K CH cR) fun E_ => tCall (spUnpdX K CT CH c cR) [] E_ (tCons (tMake CH (spHInit CH) [] E0 tNil) (tCons te tNil))
def LamG (c : Cs) (K : PySem.W.Frag) (te : TE) (σ : L2.St) (H : Hp) (ms : List Mem) : Prop := ∀ (G : Hp) (R : VK), ExtN H G → (∀ L xs G1, Same G G1 → SqL K G1 L xs → MemsAt c G1 xs ms → R (.ref L) G1) → te σ G R
def MsOk (ms : List Mem) : Prop := ∀ m ∈ ms, m.Ok ∧ m.nm.length ≤ 1000 ∧ (aboveP m.nm).length ≤ 10
theorem r_toldOk {ks : List Str} (tabs : Tabs T H) (he : LamG c K te σ H ms) (ok : MsOk ms) (lm : ms.length ≤ 40) (good : ∀ i m, ms[i]? = some m → wordP (putAll T00 (ms.take i)) m = "") (nk : ks.Nodup) (hk : ∀ p, (look (putAll T00 ms).things p).isSome = true ↔ p ∈ ks) (hl : ks.length < 64)
    (k : ∀ ys p G', ExtN H G' → Tabs T G' → ys.Perm ks → sortedS ys = true → G' p = some (.lst (ys.map V.str)) → Q (.ref p) G') : tTold K CT CH c cR T qn pa bd sc cl te σ H Q := by
  refine ⟨tabs, fun f cc H1 e1 t1 hf hcc => ⟨f, cc, rfl, upd_same, upd_old hf hcc, fun E R eK rK => ?_⟩⟩
  have pm : ((putAll T00 ms).things.map (·.1)).Perm ks := keys_perm (putAll_nd List.nodup_nil) nk hk
  have len : (putAll T00 ms).things.length = ks.length := keys_len (putAll_nd List.nodup_nil) nk hk
  have sf : Same H1 (upd H1 f (LamO qn pa bd sc cl cc f)) := same_new hf
  refine (show tCall (spUnpdX K CT CH c cR) [] E (tCons (tMake CH (spHInit CH) [] E0 tNil) (tCons te tNil)) σ (upd H1 f (LamO qn pa bd sc cl cc f)) R from ?_)
  refine r_call (r_cons ?_)
  refine ok_newHs fun x dx R9 T9 F9 H6 hx hT9 hF9 nTF e6 gx gR gT6 gF6 => ?_
  refine r_cons (he H6 _ (e1.trans (ExtN.of (sf.trans e6))) fun L xs G1 eG hL hms => r_nil ?_)
  have h0 : HsAt K CH G1 x ⟨[], [], []⟩ := HsAt.same eG ⟨dx, R9, T9, F9, [], [], [], gx, gR, .nil, gT6, .nil, gF6, .nil, nTF⟩
  refine ⟨x, L, ⟨[], [], []⟩, xs, ms, rfl, h0, List.nodup_nil, List.nodup_nil, Nat.zero_le _, Nat.zero_le _, MkOk.nil, hL, hms, ok, lm, fun i m hm _ hw => absurd (good i m hm) hw, fun _ => ⟨?_, fun ys z G2 hp hs hz e2 hN => ?_⟩⟩
  · exact Nat.lt_of_le_of_lt (Nat.le_of_eq len) hl
  · have hp2 : ys.Perm ks := List.Perm.trans hp pm
    have lr : ((hsOf (putAll (trdOf ⟨[], [], []⟩) ms).things (putAll (trdOf ⟨[], [], []⟩) ms).marks ys).rows).length ≤ 1000 := by
      show (ys.map _).length ≤ 1000
      rw [List.length_map, hp2.length_eq]
      omega
    have S2 : Same H1 G2 := ((sf.trans e6).trans eG).trans e2
    refine rK z _ G2 hN.at lr fun p G' hp' e' g' => k ys p G' (e1.trans (ExtN.of (S2.trans e'))) (LamX.Tabs.ext t1 (S2.trans e')) hp2 hs ?_
    rw [g']
    show some (HO.lst ((ys.map fun p => (p, rowP _ _ ys p)).map fun q => V.str q.1)) = _
    rw [List.map_map]
    rfl
theorem r_toldNo {i : Nat} {m : Mem} {w : Str} (tabs : Tabs T H) (he : LamG c K te σ H ms) (ok : MsOk ms) (lm : ms.length ≤ 40) (hm : ms[i]? = some m) (before : ∀ j n, j < i → ms[j]? = some n → wordP (putAll T00 (ms.take j)) n = "") (hw : wordP (putAll T00 (ms.take i)) m = w) (nw : w ≠ "")
    (k : ∀ p G', ExtN H G' → Tabs T G' → G' p = some (.tup [.int (i : Int), .str w]) → Q (.ref p) G') : tTold K CT CH c cR T qn pa bd sc cl te σ H Q := by
  refine ⟨tabs, fun f cc H1 e1 t1 hf hcc => ⟨f, cc, rfl, upd_same, upd_old hf hcc, fun E R eK rK => ?_⟩⟩
  have sf : Same H1 (upd H1 f (LamO qn pa bd sc cl cc f)) := same_new hf
  refine (show tCall (spUnpdX K CT CH c cR) [] E (tCons (tMake CH (spHInit CH) [] E0 tNil) (tCons te tNil)) σ (upd H1 f (LamO qn pa bd sc cl cc f)) R from ?_)
  refine r_call (r_cons ?_)
  refine ok_newHs fun x dx R9 T9 F9 H6 hx hT9 hF9 nTF e6 gx gR gT6 gF6 => ?_
  refine r_cons (he H6 _ (e1.trans (ExtN.of (sf.trans e6))) fun L xs G1 eG hL hms => r_nil ?_)
  have h0 : HsAt K CH G1 x ⟨[], [], []⟩ := HsAt.same eG ⟨dx, R9, T9, F9, [], [], [], gx, gR, .nil, gT6, .nil, gF6, .nil, nTF⟩
  refine ⟨x, L, ⟨[], [], []⟩, xs, ms, rfl, h0, List.nodup_nil, List.nodup_nil, Nat.zero_le _, Nat.zero_le _, MkOk.nil, hL, hms, ok, lm, fun j n hn good hwn => ?_, fun all => absurd (hw.symm.trans (all i m hm)) nw⟩
  have ij : j = i := by
    rcases Nat.lt_trichotomy j i with h | h | h
    · exact absurd (before j n h hn) hwn
    · exact h
    · exact absurd (hw.symm.trans (good i m h hm)) nw
  subst ij
  obtain rfl : n = m := Option.some.inj (hn.symm.trans hm)
  intro D G' e' hD
  have S2 : Same H1 G' := ((sf.trans e6).trans eG).trans e'
  refine eK D (j : Int) w G' (by rw [hD]; exact congrArg (fun w => some (HO.xd [("word", V.str w), ("index", V.int (j : Int))])) hw) fun p G3 hp e3 g3 => k p G3 (e1.trans (ExtN.of (S2.trans e3))) (LamX.Tabs.ext t1 (S2.trans e3)) g3
end
open LamX (Tabs TabB ExtN)
/-! ### the law's steps -/
inductive Out where
  | names (zs : List Str)
  | word (i : Int) (w : Str)
def OutAt (H : Hp) (a : Addr) : Out → Prop
  | .names zs => H a = some (.lst (zs.map V.str))
  | .word i w => H a = some (.tup [.int i, .str w])
theorem OutAt.same {H H' : Hp} {a : Addr} {o : Out} (h : OutAt H a o) (e : Same H H') : OutAt H' a o := by
  cases o with
  | names zs => exact e _ _ h
  | word i w => exact e _ _ h
section
variable {K : PySem.W.Frag} {c : Cs} {CT CH cR : Addr} {T : List (Addr × Str)} {σ : L2.St} {H : Hp} {Q : VK} {D : Ends} {qn : Str} {pa : Arguments} {bd : Expr} {sc : Scope} {cl : List (Str × Addr)}
abbrev tNeT (K : PySem.W.Frag) (te : TE) : TS := tIfS (tTest (tOp (fun x y H Q => rNeG (DList DFlat) x y H Q ∨ rNeG (DTup K DFB) x y H Q) (tVar 7) te)) (tRet (tC (V.bl false))) tNext
theorem r_neO {a b : Addr} {o : Out} (ha : OutAt H a o) (hb : OutAt H b o) (k : ∀ H', Same H H' → Q (.bl false) H') : rNeG (DList DFlat) (.ref a) (.ref b) H Q ∨ rNeG (DTup K DFB) (.ref a) (.ref b) H Q := by
  cases o with
  | names zs => exact .inl ⟨strs_eq ha hb, fun H' e => k H' e⟩
  | word i w =>
    refine .inr ⟨⟨a, b, [.int i, .str w], [.int i, .str w], rfl, rfl, SqT.of ha, SqT.of hb, rfl, fun i p q hp hq => ?_⟩, fun H' e => k H' e⟩
    rw [hp] at hq
    cases hq
    have hm := List.mem_of_getElem? hp
    simp only [List.mem_cons, List.not_mem_nil, or_false] at hm
    rcases hm with e | e <;> subst e <;> exact .inl ⟨rfl, rfl, by simp [eqV]⟩
def Gives (te : TE) (σ : L2.St) (H : Hp) (o : Out) : Prop := ∀ Q : VK, (∀ b H1, Same H H1 → OutAt H1 b o → Q (.ref b) H1) → te σ H Q
theorem r_neT {a : Addr} {o : Out} {te : TE} (h7 : σ[7]? = some (some (.ref a))) (ha : OutAt H a o) (hg : Gives te σ H o) (k : ∀ H', Same H H' → D.nx σ H') : tNeT K te D σ H := by
  refine (show tOp (fun x y H Q => rNeG (DList DFlat) x y H Q ∨ rNeG (DTup K DFB) x y H Q) (tVar 7) te σ H _ from ?_)
  refine r_op (r_var h7 (hg _ fun b H1 e1 hb => ?_))
  refine r_neO (ha.same e1) hb fun H' e' => ?_
  refine ⟨false, rfl, ?_⟩
  refine r_iteF (r_next ?_)
  exact k H' (e1.trans e')
abbrev tE1 (K : PySem.W.Frag) : TE := tIf (tB (tCall spLIsPath [] E0 (tCons (tVar 4) tNil))) (tVar 6) (tTup (tCons (tC (V.int 0)) (tCons (tC (V.str (Str.ofString "name"))) tNil)))
abbrev tE2 (K : PySem.W.Frag) (i : Int) (w : Str) : TE := tIf (tB (tCall spLIsPath [] E0 (tCons (tVar 4) tNil))) (tCB (rSortedS K) (tCons (tOp rCat (tVar 6) (tLst (tCons (tC (V.str (Str.ofString "zz"))) tNil))) tNil)) (tTup (tCons (tC (V.int i)) (tCons (tC (V.str w)) tNil)))
abbrev st (a p d : Addr) (i : Int) (z : Str) (v3 v5 v7 v8 v9 v10 : Option V) : L2.St := [some (.ref a), some (.int i), some (.ref p), v3, some (.str z), v5, some (.ref d), v7, v8, v9, v10]
variable {a p d : Addr} {i : Int} {z : Str} {v3 v5 v7 v8 v9 v10 : Option V} {ds es : List Str}
theorem gives_E1 (hz : z.length ≤ 1000) (hd : H d = some (.lst (ds.map V.str))) : Gives (tE1 K) (st a p d i z v3 v5 v7 v8 v9 v10) H (if partsB z = true then .names ds else .word 0 "name") := fun Q k => by
  walk_at "rd"
  refine sp_lispath hz fun H1 e1 => ?_
  refine ⟨_, rfl, ?_⟩
  cases hp : partsB z with
  | true =>
    rw [hp] at k
    walk_at "rd"
    exact k _ _ e1 (e1 _ _ hd)
  | false =>
    rw [hp] at k
    walk_at "rd"
    rename_i t ht
    exact k _ _ (e1.trans (same_new ht)) upd_same
theorem gives_E2 {j : Int} {w : Str} (hz : z.length ≤ 1000) (hd : H d = some (.lst (ds.map V.str))) (hl : ds.length ≤ 40) (hes : partsB z = true → es.Perm (ds ++ [("zz" : Str)]) ∧ sortedS es = true) : Gives (tE2 K j w) (st a p d i z v3 v5 v7 v8 v9 v10) H (if partsB z = true then .names es else .word j w) := fun Q k => by
  walk_at "rd"
  refine sp_lispath hz fun H1 e1 => ?_
  refine ⟨_, rfl, ?_⟩
  cases hb : partsB z with
  | true =>
    obtain ⟨hp, hs⟩ := hes hb
    rw [hb] at k
    walk_at "rd"
    rename_i l hl1
    refine r_cat (zs := [V.str "zz"]) ((same_new hl1) _ _ (e1 _ _ hd)) upd_same (by rw [List.length_map, List.length_singleton, sizeLine_eq]; omega) fun l2 hl2 => ?_
    walk_at "rd"
    refine r_sortedS (xs := ds ++ [("zz" : Str)]) (SqL.of (by rw [upd_same, List.map_append]; rfl)) (by rw [List.length_append]; simp only [List.length_cons, List.length_nil]; omega) fun ys q hpm hst hq => ?_
    obtain rfl : ys = es := sorted_one (sorted_le hst) (sorted_le hs) (hpm.trans hp.symm)
    exact k _ _ (((e1.trans (same_new hl1)).trans (same_new hl2)).trans (same_new hq)) upd_same
  | false =>
    rw [hb] at k
    walk_at "rd"
    rename_i t ht
    exact k _ _ (e1.trans (same_new ht)) upd_same
def Mem.plain : Mem → Bool
  | .sparse .. => false
  | _ => true
theorem ins_ext {m : Mem} {x : Addr} {G : Hp} (hp : m.plain = true) (h : m.Ins c H x) (e : ExtN H G) : m.Ins c G x := by
  cases m with
  | file n b t ns => obtain ⟨dx, hx⟩ := h; exact ⟨dx, e _ _ hx nofun⟩
  | sparse n b t z sp => cases hp
  | dir n b t => obtain ⟨dx, hx⟩ := h; exact ⟨dx, e _ _ hx nofun⟩
  | sym n b t g => obtain ⟨dx, hx⟩ := h; exact ⟨dx, e _ _ hx nofun⟩
  | lnk n b t g => obtain ⟨dx, hx⟩ := h; exact ⟨dx, e _ _ hx nofun⟩
theorem memsAt_ext {G : Hp} : ∀ {xs : List V} {ms : List Mem}, (∀ m ∈ ms, m.plain = true) → MemsAt c H xs ms → ExtN H G → MemsAt c G xs ms
  | _, _, _, .nil, _ => .nil
  | _, _, hp, .cons ⟨y, h1, h2⟩ t, e => .cons ⟨y, h1, ins_ext (hp _ List.mem_cons_self) h2 e⟩ (memsAt_ext (fun m hm => hp m (List.mem_cons_of_mem _ hm)) t e)
/-- a list of members, at its place -/
theorem lamG8 {y : Addr} {m : Mem} (hp : m.plain = true) (h8 : σ[8]? = some (some (.ref y))) (h : m.Ins c H y) : LamG c K (tLst (tCons (tVar 8) tNil)) σ H [m] := fun G R e k => by
  walk_at "rd"
  refine r_var h8 ?_
  walk_at "rd"
  rename_i l hl
  exact k l _ _ (same_new hl) (SqL.of upd_same) (.cons ⟨y, rfl, (ins_ext hp h e).same (same_new hl)⟩ .nil)
theorem lamG9 {L : Addr} {xs : List V} {ms : List Mem} (hp : ∀ m ∈ ms, m.plain = true) (h9 : σ[9]? = some (some (.ref L))) (hL : H L = some (.lst xs)) (h : MemsAt c H xs ms) : LamG c K (tVar 9) σ H ms := fun G R e k =>
  r_var h9 (k L xs G (Same.refl _) (SqL.of (e _ _ hL nofun)) (memsAt_ext hp h e))
end
end Th
namespace Th
open PySem PySem.Spec PyProof.Rows L2
local macro_rules | `(tactic| walk_at "lk") => `(tactic| first
  | assumption
  | exact upd_same
  | (refine upd_old (by assumption) ?_; walk_at "lk")
  | (refine upd_diff (by assumption) ?_; walk_at "lk")
  | (refine upd_diff (Ne.symm (by assumption)) ?_; walk_at "lk"))
local macro_rules | `(tactic| walk_at "cnd") => `(tactic| first
  | omega
  | (refine ⟨by omega, by omega⟩)
  | (refine ⟨by omega, by omega, by omega⟩)
  | (refine .inl ⟨by omega, by omega⟩)
  | (refine .inr ⟨by omega, by omega⟩)
  | (exact (show CPow _ _ from ⟨by decide, by decide, by omega⟩))
  | decide +kernel
  | (unfold CMulW; decide +kernel)
  | (exact wide_div (b := 64) (by omega) (by omega) (by decide) (by decide)))
local macro_rules | `(tactic| walk_at "rd1") => `(tactic| first
  | (with_reducible refine r_seq ?_)
  | (with_reducible refine r_asg ?_)
  | (with_reducible refine r_ret ?_)
  | (with_reducible refine r_if ?_)
  | (with_reducible refine r_gname ?_)
  | ((with_reducible refine' r_var ?hv ?_); (case hv => exact rfl))
  | (with_reducible refine r_c ?_)
  | (with_reducible refine r_op ?_)
  | (with_reducible refine r_I0 ?_)
  | ((with_reducible refine r_I ?hc ?_); (case hc => walk_at "cnd"))
  | (with_reducible refine r_test ?_)
  | (with_reducible refine r_tB ?_)
  | (with_reducible refine r_bl ?_)
  | (with_reducible refine r_not ?_)
  | (with_reducible refine r_and ?_)
  | (with_reducible refine r_or ?_)
  | (with_reducible refine r_ifE ?_)
  | (with_reducible refine r_notV ?_)
  | (with_reducible refine r_andV ?_)
  | (with_reducible refine r_orV ?_)
  | (with_reducible refine r_chain ?_)
  | (with_reducible refine r_cb ?_)
  | (with_reducible refine r_call ?_)
  | (with_reducible refine r_callN ?_)
  | (with_reducible refine r_nil ?_)
  | (with_reducible refine r_dget ?_)
  | ((with_reducible refine r_dnewK ?_); (intro p hp))
  | (with_reducible refine r_din ?_)
  | (with_reducible refine r_dnotin ?_)
  | (with_reducible refine r_dput ?_)
  | (with_reducible refine r_ddel ?_)
  | (with_reducible refine r_dsetd ?_)
  | (with_reducible refine r_rng2 ?_)
  | (with_reducible refine r_cons ?_)
  | ((with_reducible refine r_lst ?_))
  | ((with_reducible refine r_tup ?_))
  | ((with_reducible refine r_new ?_ ?_); (exact Nat.le_of_ble_eq_true rfl); (intro p hp))
  | (with_reducible refine r_rInt1 ?_)
  | (with_reducible refine r_rIntB ?_)
  | (with_reducible refine r_rAbs ?_)
  | (with_reducible refine r_rMin2 ?_)
  | (with_reducible refine r_rMax2 ?_)
  | ((with_reducible refine r_rLenZ ?hz ?_); (case hz => first | assumption | exact Nat.le_of_ble_eq_true rfl | (refine Nat.le_trans ?_ (by decide : 100000 ≤ sizeLine); omega)))
  | ((with_reducible refine r_addZ ?hz ?_); (case hz => (refine Nat.le_trans ?_ (by decide : 100000 ≤ sizeLine); first | omega | (simp only [Str.length] at *; simp; omega))))
  | ((with_reducible refine r_mulZ ?hz ?h0 ?h1 ?_); (case hz => first | omega | exact Nat.le_of_ble_eq_true rfl); (case h0 => omega); (case h1 => omega))
  | ((with_reducible refine' r_rLenQ ?h1 ?_); (case h1 => first | (exact .inl (by assumption)) | (exact .inr (by assumption)) | (exact .inl (SqL.of (by walk_at "lk"))) | (exact .inr (SqT.of (by walk_at "lk")))))
  | ((with_reducible refine r_eq ?hs ?_); (case hs => exact rfl))
  | ((with_reducible refine r_ne ?hs ?_); (case hs => exact rfl))
  | (with_reducible refine r_inC ?_)
  | ((with_reducible refine' r_cat ?h1 ?h2 ?h3 ?_); (case h1 => walk_at "lk"); (case h2 => walk_at "lk"); (case h3 => exact Nat.le_of_ble_eq_true rfl); (intro p hp))
  | ((with_reducible refine' r_rep ?h1 ?h2 ?h3 ?h4 ?_); (case h1 => walk_at "lk"); (case h2 => omega); (case h3 => omega); (case h4 => exact Nat.le_of_ble_eq_true rfl); (intro p hp))
  | ((with_reducible refine' r_append ?h1 ?h2 ?_); (case h1 => walk_at "lk"); (case h2 => first | exact (show _ + 1 ≤ sizeLine from Nat.le_of_ble_eq_true rfl) | exact Nat.lt_of_le_of_lt (by omega : _ ≤ 100000) (by decide)))
  | (with_reducible refine r_bm ?_)
  | ((with_reducible refine' r_tyL ?h1 ?_); (case h1 => walk_at "lk"))
  | ((with_reducible refine' r_ixL ?h1 ?h2 ?_); (case h1 => first | assumption | exact SqL.of (by walk_at "lk")); (case h2 => exact rfl))
  | ((with_reducible refine' r_ixT ?h1 ?h2 ?_); (case h1 => first | assumption | exact SqT.of (by walk_at "lk")); (case h2 => exact rfl))
  | (with_reducible refine r_gsub ?_)
  | ((with_reducible refine' r_setL ?h1 ?h2 ?_); (case h1 => walk_at "lk"); (case h2 => exact rfl))
  | (with_reducible refine r_un ?_)
  | (with_reducible refine r_neg ?_)
  | (with_reducible refine r_iteT ?_)
  | (with_reducible refine r_iteNT ?_)
  | (with_reducible refine r_iteNF ?_)
  | (with_reducible refine r_iteF ?_)
  | (with_reducible refine r_next ?_)
  | (with_reducible refine r_drop ?_)
  | (with_reducible refine r_cont ?_)
  | (with_reducible refine r_brk ?_))
local macro_rules | `(tactic| walk_at "ty") => `(tactic| first
  | assumption
  | exact .base (.int _)
  | exact .base (.str _)
  | exact .base (.bl _)
  | exact .base .non
  | exact .byt _
  | exact .base (.lst (by walk_at "lk"))
  | exact .base (.tup (by walk_at "lk")))
local macro_rules | `(tactic| walk_at "rd2") => `(tactic| first
  | walk_at "rd1"
  | ((with_reducible refine' r_isi true ?ht ?hk ?_); (case ht => walk_at "ty"); (case hk => first | assumption | decide +kernel))
  | ((with_reducible refine' r_isi false ?ht ?hk ?_); (case ht => walk_at "ty"); (case hk => first | assumption | decide +kernel))
  | ((with_reducible refine' r_isiT2 true true ?hT ?ht ?hk ?hk2 ?_); (case hT => walk_at "lk"); (case ht => walk_at "ty"); (case hk => decide +kernel); (case hk2 => decide +kernel))
  | ((with_reducible refine' r_isiT2 true false ?hT ?ht ?hk ?hk2 ?_); (case hT => walk_at "lk"); (case ht => walk_at "ty"); (case hk => decide +kernel); (case hk2 => decide +kernel))
  | ((with_reducible refine' r_isiT2 false true ?hT ?ht ?hk ?hk2 ?_); (case hT => walk_at "lk"); (case ht => walk_at "ty"); (case hk => decide +kernel); (case hk2 => decide +kernel))
  | ((with_reducible refine' r_isiT2 false false ?hT ?ht ?hk ?hk2 ?_); (case hT => walk_at "lk"); (case ht => walk_at "ty"); (case hk => decide +kernel); (case hk2 => decide +kernel))
  | (with_reducible refine r_iteNT ?_)
  | ((show (if (!true) = true then _ else _)); refine r_iteNT ?_)
  | (with_reducible refine r_r1 ?_)
  | (with_reducible refine r_maks ?_)
  | (with_reducible refine r_sfld ?_)
  | ((with_reducible refine' r_sfldE ?h1 ?h2 ?h3 ?h4 ?_); (case h1 => walk_at "lk"); (case h2 => assumption); (case h3 => assumption); (case h4 => exact (show _ + 1 ≤ 1000 from Nat.le_of_ble_eq_true rfl)))
  | (with_reducible refine r_fld ?_)
  | (with_reducible refine r_join ?_)
  | (with_reducible refine r_jcons ?_)
  | (with_reducible refine r_jnil ?_)
  | ((with_reducible refine r_rLenY ?hz ?_); (case hz => first | assumption | (refine Nat.le_trans ?_ (by decide : 100000 ≤ sizeLine); omega)))
  | (with_reducible refine r_par ?_)
  | (with_reducible refine r_pair ?_)
  | (with_reducible refine r_par3 ?_)
  | (with_reducible refine r_trip ?_)
  | ((with_reducible refine' r_gtup ?h1 ?h2 ?_); (case h1 => first | assumption | exact SqT.of (by walk_at "lk")); (case h2 => exact rfl))
  | (with_reducible refine r_gcons ?_)
  | (with_reducible refine r_gnil ?_)
  | ((with_reducible refine' r_slL ?h1 ?_); (case h1 => first | assumption | exact SqL.of (by walk_at "lk")); (intro p hp))
  | (with_reducible refine r_iTup ?_)
  | ((with_reducible refine' r_tupE ?h1 ?_); (case h1 => first | assumption | exact SqT.of (by walk_at "lk")))
  | (with_reducible refine r_m1 ?_)
  | (with_reducible refine r_isZ ?_)
  | (with_reducible refine r_sl ?_)
  | (with_reducible refine r_noPart ?_)
  | (with_reducible refine r_part ?_)
  | (with_reducible refine r_partE ?_)
  | ((with_reducible refine r_slS ?hz ?_); (case hz => first | assumption | (refine Nat.le_trans ?_ (by decide : 100000 ≤ sizeLine); omega)))
  | ((with_reducible refine' r_inT ?h1 ?h2 ?h3 ?_); (case h1 => first | assumption | (exact SqT.of (by walk_at "lk"))); (case h2 => exact rfl); (case h3 => exact rfl))
  | ((with_reducible refine' r_inL ?h1 ?h2 ?h3 ?_); (case h1 => first | assumption | (exact SqL.of (by walk_at "lk"))); (case h2 => exact rfl); (case h3 => exact rfl))
  | (with_reducible refine r_lc ?_)
  | (with_reducible refine r_for ?_)
  | (with_reducible refine r_iStr ?_)
  | (with_reducible refine r_strE ?_)
  | (with_reducible refine r_iList ?_)
  | ((with_reducible refine' r_listE ?h1 ?_); (case h1 => first | assumption | exact SqL.of (by walk_at "lk")))
  | (with_reducible refine r_iRng1 ?_)
  | ((with_reducible refine' r_rngE ?h0 ?h1 ?_); (case h0 => first | omega | (split <;> omega)); (case h1 => first | omega | (split <;> omega))))
local macro_rules | `(tactic| walk_at "rd") => `(tactic| (repeat walk_at "rd2"))
local macro_rules | `(tactic| walk_at "st") => `(tactic| (repeat (first
  | (with_reducible refine r_gname ?_)
  | (with_reducible refine r_next ?_)
  | (with_reducible refine r_seq ?_)
  | (with_reducible refine r_asg ?_)
  | (with_reducible refine r_ret ?_)
  | (with_reducible refine r_for ?_)
  | (with_reducible refine r_iRng1 ?_)
  | (with_reducible refine r_iList ?_)
  | (with_reducible refine r_cons ?_)
  | (with_reducible refine r_par ?_)
  | (with_reducible refine r_par3 ?_))))
open LamX (Tabs TabB ExtN)
/-! ### the law's members, and one name's turn -/
section
variable {K : PySem.W.Frag} {c : Cs} {CT CH cR : Addr} {T : List (Addr × Str)} {σ : L2.St} {H : Hp} {Q : VK} {D : Ends} {z : Str}
abbrev tkF' (c : Cs) (tn : TE) (n : Int) : TE := tMakS (fun vs zs H Q => zs = [] ∧ ∀ (E : XK), spFileI c.F (vs ++ [V.int 420, V.int 0]) H Q E) ([] : List Str).length c.F (tCons tn (tCons (tCall spBlob [] E0 (tCons (tLst (tCons (tC (V.int n)) tNil)) tNil)) tNil)) tNil
abbrev tkD' (c : Cs) (tn : TE) : TE := tMakS (fun vs zs H Q => zs = [] ∧ ∀ (E : XK), spDirI c.D (vs ++ [V.int 493, V.int 0]) H Q E) ([] : List Str).length c.D (tCons tn tNil) tNil
abbrev tkL' (c : Cs) (tn tg : TE) : TE := tMakS (fun vs zs H Q => zs = [] ∧ ∀ (E : XK), spSymI c.L (vs ++ [V.int 420, V.int 0]) H Q E) ([] : List Str).length c.L (tCons tn (tCons tg tNil)) tNil
def Val (te : TE) (σ : L2.St) (z : Str) : Prop := ∀ (H : Hp) (Q : VK), Q (.str z) H → te σ H Q
theorem val_c : Val (tC (V.str z)) σ z := fun H Q k => k
theorem val_v {i : Nat} (h : σ[i]? = some (some (.str z))) : Val (tVar i) σ z := fun H Q k => r_var h k
theorem stamp0 {b : Int} (nz : nameB z = true) (h0 : 0 ≤ b) (h1 : b ≤ 4095) : stampOk z b 0 := ⟨nz, h0, h1, Int.le_refl 0, by decide⟩
theorem ok_f {n : Int} (nz : nameB z = true) (hb : [n].all inByte = true) : (Mem.file z 420 0 [n]).Ok := ⟨stamp0 nz (by decide) (by decide), (show 1 ≤ 4096 by decide), hb⟩
theorem ok_d (nz : nameB z = true) : (Mem.dir z 493 0).Ok := stamp0 nz (by decide) (by decide)
theorem ok_l {g : Str} (nz : nameB z = true) (ng : nameB g = true) : (Mem.lnk z 420 0 g).Ok := ⟨stamp0 nz (by decide) (by decide), ng⟩
theorem mk_f {tn : TE} {n : Int} (hv : Val tn σ z) (nz : nameB z = true) (hb : [n].all inByte = true) (k : ∀ x H', H x = none → Same H H' → (Mem.file z 420 0 [n]).Ins c H' x → Q (.ref x) H') : tkF' c tn n σ H Q :=
  r_tkF (ok_f nz hb) (fun Q' k' => by
    refine r_cons (hv _ _ ?_)
    walk_at "rd"
    refine sp_blob (ns := [n]) upd_same (by simp only [List.length_cons, List.length_nil]; omega) hb fun H1 e1 => ?_
    rename_i l hl
    exact k' _ ((same_new hl).trans e1)) k
theorem mk_d {tn : TE} (hv : Val tn σ z) (nz : nameB z = true) (k : ∀ x H', H x = none → Same H H' → (Mem.dir z 493 0).Ins c H' x → Q (.ref x) H') : tkD' c tn σ H Q :=
  r_tkD (ok_d nz) (fun Q' k' => r_cons (hv _ _ (r_nil k'))) k
theorem mk_l {tn tg : TE} {g : Str} (hv : Val tn σ z) (hg : Val tg σ g) (nz : nameB z = true) (ng : nameB g = true) (k : ∀ x H', H x = none → Same H H' → (Mem.lnk z 420 0 g).Ins c H' x → Q (.ref x) H') : tkL' c tn tg σ H Q :=
  r_tkL (ok_l nz ng) (fun Q' k' => r_cons (hv _ _ (r_cons (hg _ _ (r_nil k'))))) k
def MkL (c : Cs) (te : TE) (σ : L2.St) (H : Hp) (ms : List Mem) : Prop := ∀ Q : VK, (∀ L xs G, Same H G → G L = some (.lst xs) → MemsAt c G xs ms → Q (.ref L) G) → te σ H Q
theorem mkl_fd {tn : TE} {n : Int} (hv : Val tn σ z) (nz : nameB z = true) (hb : [n].all inByte = true) : MkL c (tLst (tCons (tkF' c tn n) (tCons (tkD' c tn) tNil))) σ H [.file z 420 0 [n], .dir z 493 0] := fun Q k => by
  refine (show tCons _ _ σ H _ from ?_)
  refine r_cons (mk_f hv nz hb fun x H1 hx e1 i1 => r_cons (mk_d hv nz fun y H2 hy e2 i2 => r_nil ?_))
  refine ⟨(show 2 ≤ sizeLine by decide), fun L hL => ?_⟩
  exact k L _ _ ((e1.trans e2).trans (same_new hL)) upd_same (.cons ⟨x, rfl, i1.same (e2.trans (same_new hL))⟩ (.cons ⟨y, rfl, i2.same (same_new hL)⟩ .nil))
theorem mkl_fl {tn ta tg : TE} {n : Int} {g u : Str} (hv : Val tn σ z) (ha : Val ta σ u) (hg : Val tg σ g) (nz : nameB z = true) (nu : nameB u = true) (ng : nameB g = true) (hb : [n].all inByte = true) : MkL c (tLst (tCons (tkF' c tn n) (tCons (tkL' c ta tg) tNil))) σ H [.file z 420 0 [n], .lnk u 420 0 g] := fun Q k => by
  refine (show tCons _ _ σ H _ from ?_)
  refine r_cons (mk_f hv nz hb fun x H1 hx e1 i1 => r_cons (mk_l ha hg nu ng fun y H2 hy e2 i2 => r_nil ?_))
  refine ⟨(show 2 ≤ sizeLine by decide), fun L hL => ?_⟩
  exact k L _ _ ((e1.trans e2).trans (same_new hL)) upd_same (.cons ⟨x, rfl, i1.same (e2.trans (same_new hL))⟩ (.cons ⟨y, rfl, i2.same (same_new hL)⟩ .nil))
theorem mkl_l {ta tg : TE} {g u : Str} (ha : Val ta σ u) (hg : Val tg σ g) (nu : nameB u = true) (ng : nameB g = true) : MkL c (tLst (tCons (tkL' c ta tg) tNil)) σ H [.lnk u 420 0 g] := fun Q k => by
  refine (show tCons _ _ σ H _ from ?_)
  refine r_cons (mk_l ha hg nu ng fun y H2 hy e2 i2 => r_nil ?_)
  refine ⟨(show 1 ≤ sizeLine by decide), fun L hL => ?_⟩
  exact k L _ _ (e2.trans (same_new hL)) upd_same (.cons ⟨y, rfl, i2.same (same_new hL)⟩ .nil)
/-- one call told, whatever it tells -/
theorem told_step {P : Out → Prop} {te : TE} {qn : Str} {pa : Arguments} {bd : Expr} {sc : Scope} {cl : List (Str × Addr)} (hT : ∀ Q : VK, (∀ o b G', P o → ExtN H G' → Tabs T G' → OutAt G' b o → Q (.ref b) G') → tTold K CT CH c cR T qn pa bd sc cl te σ H Q)
    (k : ∀ o b G', P o → ExtN H G' → Tabs T G' → OutAt G' b o → D.nx (σ.set 7 (some (.ref b))) G') : tAsg (tTold K CT CH c cR T qn pa bd sc cl te) (gName 7) D σ H := by
  refine (show tTold K CT CH c cR T qn pa bd sc cl te σ H _ from ?_)
  exact hT _ fun o b G' ho e t h => r_gname (k o b G' ho e t h)
variable {ds es : List Str} {qn : Str} {pa : Arguments} {bd : Expr} {sc : Scope} {cl : List (Str × Addr)} {o : Out}
def Told (T : List (Addr × Str)) (P : Out → Prop) (H : Hp) (Q : VK) : Prop := ∀ o b G', P o → ExtN H G' → Tabs T G' → OutAt G' b o → Q (.ref b) G'
def OutZ (z : Str) (i : Int) (w : Str) (o : Out) : Prop := ∃ es : List Str, (partsB z = true → es.Perm (dueP z ++ [("zz" : Str)]) ∧ sortedS es = true) ∧ o = if partsB z = true then .names es else .word i w
structure NmOk (z : Str) : Prop where
  n : nameB z = true
  a : (aboveP z).length ≤ 10
  z : 122 ∉ TL.tl z
theorem NmOk.l (h : NmOk z) : z.length ≤ 250 := (of_name h.n).2.1
theorem NmOk.d (h : NmOk z) : (dueP z).length ≤ 11 := by
  have := h.a
  rw [due_eq, List.length_append, List.length_singleton]
  omega
theorem nm_zz : ("zz" : Str).length ≤ 1000 ∧ (aboveP "zz").length ≤ 10 := by decide +kernel
theorem told_A {m : Mem} {y : Addr} (g : NmOk z) (tabs : Tabs T H) (h8 : σ[8]? = some (some (.ref y))) (hin : m.Ins c H y) (pl : m.plain = true) (ok : m.Ok) (hnm : m.nm = z) (nl : m.isLnk = false) (hpd : ds.Perm (dueP z)) (hs : sortedS ds = true)
    (k : Told T (fun o => o = if partsB z = true then .names ds else .word 0 "name") H Q) : tTold K CT CH c cR T qn pa bd sc cl (tLst (tCons (tVar 8) tNil)) σ H Q := by
  subst hnm
  have ok' : MsOk [m] := fun x hx => by
    rw [List.mem_singleton] at hx
    subst hx
    exact ⟨ok, Nat.le_trans g.l (by decide), g.a⟩
  cases hp : partsB m.nm with
  | true =>
    refine r_toldOk (ks := dueP m.nm) tabs (lamG8 pl h8 hin) ok' (show 1 ≤ 40 by decide) (one_good g.n hp nl) (due_nd _) (fun p => keys1) (Nat.lt_of_le_of_lt g.d (by decide)) fun ys p G' e t hpm hst hg => k (.names ys) p G' ?_ e t hg
    obtain rfl : ys = ds := sorted_one (sorted_le hst) (sorted_le hs) (hpm.trans hpd.symm)
    rw [if_pos hp]
  | false =>
    exact r_toldNo (i := 0) (m := m) (w := "name") tabs (lamG8 pl h8 hin) ok' (show 1 ≤ 40 by decide) rfl (fun j n hj => absurd hj (Nat.not_lt_zero _)) (word_no hp) (by decide +kernel) fun p G' e t hg => k (.word 0 "name") p G' (by rw [if_neg (by rw [hp]; decide)]) e t hg
theorem memsB_ok (g : NmOk z) : MsOk [.file "zz" 420 0 [2], .lnk z 420 0 "zz"] := fun x hx => by
  simp only [List.mem_cons, List.not_mem_nil, or_false] at hx
  rcases hx with e | e <;> subst e
  · exact ⟨ok_f zz_name (by decide), nm_zz⟩
  · exact ⟨ok_l g.n zz_name, Nat.le_trans g.l (by decide), g.a⟩
theorem memsC_ok (g : NmOk z) : MsOk [.file z 420 0 [2], .lnk "zz" 420 0 z] := fun x hx => by
  simp only [List.mem_cons, List.not_mem_nil, or_false] at hx
  rcases hx with e | e <;> subst e
  · exact ⟨ok_f g.n (by decide), Nat.le_trans g.l (by decide), g.a⟩
  · exact ⟨ok_l zz_name g.n, nm_zz⟩
theorem memsC0_ok (g : NmOk z) : MsOk [.lnk "zz" 420 0 z] := fun x hx => by
  rw [List.mem_singleton] at hx
  subst hx
  exact ⟨ok_l zz_name g.n, nm_zz⟩
theorem plain2 {a b b2 t t2 : Int} {x y u : Str} {ns : List Int} : ∀ m ∈ [Mem.file x b t ns, Mem.lnk y b2 t2 u], m.plain = true := fun m hm => by
  simp only [List.mem_cons, List.not_mem_nil, or_false] at hm
  rcases hm with e | e <;> subst e <;> rfl
theorem lenZ (g : NmOk z) : (dueP z ++ [("zz" : Str)]).length < 64 := by
  have := g.d
  rw [List.length_append, List.length_singleton]
  omega
theorem told_B {L : Addr} {xs : List V} (g : NmOk z) (tabs : Tabs T H) (h9 : σ[9]? = some (some (.ref L))) (hL : H L = some (.lst xs)) (h : MemsAt c H xs [.file "zz" 420 0 [2], .lnk z 420 0 "zz"])
    (k : Told T (OutZ z 1 "name") H Q) : tTold K CT CH c cR T qn pa bd sc cl (tVar 9) σ H Q := by
  cases hp : partsB z with
  | true =>
    refine r_toldOk (ks := dueP z ++ [("zz" : Str)]) tabs (lamG9 (plain2 (a := 0)) h9 hL h) (memsB_ok g) (show 2 ≤ 40 by decide) (two_good word_B1 (word_B2 g.n hp g.z)) (dueZ_nd g.z) (fun p => (keys2.trans or_comm).trans memZ.symm) (lenZ g) fun ys p G' e t hpm hst hg => k (.names ys) p G' ⟨ys, fun _ => ⟨hpm, hst⟩, (if_pos hp).symm⟩ e t hg
  | false =>
    refine r_toldNo (i := 1) (m := .lnk z 420 0 "zz") (w := "name") tabs (lamG9 (plain2 (a := 0)) h9 hL h) (memsB_ok g) (show 2 ≤ 40 by decide) rfl (fun j n hj hn => ?_) (word_no hp) (by decide +kernel) fun p G' e t hg => k (.word 1 "name") p G' ⟨[], fun h => absurd (hp.symm.trans h) (by decide), (if_neg (fun h => absurd (hp.symm.trans h) (by decide))).symm⟩ e t hg
    obtain rfl : j = 0 := by omega
    cases hn
    exact word_B1
def memsC (z : Str) : List Mem := if partsB z = true then [.file z 420 0 [2], .lnk "zz" 420 0 z] else [.lnk "zz" 420 0 z]
theorem told_C {L : Addr} {xs : List V} (g : NmOk z) (tabs : Tabs T H) (h9 : σ[9]? = some (some (.ref L))) (hL : H L = some (.lst xs)) (h : MemsAt c H xs (memsC z))
    (k : Told T (OutZ z 0 "target") H Q) : tTold K CT CH c cR T qn pa bd sc cl (tVar 9) σ H Q := by
  unfold memsC at h
  cases hp : partsB z with
  | true =>
    rw [hp, if_pos rfl] at h
    have w1 : wordP T00 (.file z 420 0 [2]) = "" := word_yes g.n hp (fun _ _ => rfl) rfl fun h => absurd h (by show ¬ false = true; decide)
    refine r_toldOk (ks := dueP z ++ [("zz" : Str)]) tabs (lamG9 (plain2 (a := 0)) h9 hL h) (memsC_ok g) (show 2 ≤ 40 by decide) (two_good w1 (word_C2 g.z)) (dueZ_nd g.z) (fun p => keys2.trans memZ.symm) (lenZ g) fun ys p G' e t hpm hst hg => k (.names ys) p G' ⟨ys, fun _ => ⟨hpm, hst⟩, (if_pos hp).symm⟩ e t hg
  | false =>
    rw [hp, if_neg (by decide)] at h
    refine r_toldNo (i := 0) (m := .lnk "zz" 420 0 z) (w := "target") tabs (lamG9 (fun m hm => ?_) h9 hL h) (memsC0_ok g) (show 1 ≤ 40 by decide) rfl (fun j n hj => absurd hj (Nat.not_lt_zero _)) word_C0 (by decide +kernel) fun p G' e t hg => k (.word 0 "target") p G' ⟨[], fun h => absurd (hp.symm.trans h) (by decide), (if_neg (fun h => absurd (hp.symm.trans h) (by decide))).symm⟩ e t hg
    rw [List.mem_singleton] at hm
    subst hm
    rfl
abbrev tIsP : TT := tB (tCall spLIsPath [] E0 (tCons (tVar 4) tNil))
theorem mkl_C (g : NmOk z) (h4 : σ[4]? = some (some (.str z))) : MkL c (tIf tIsP (tLst (tCons (tkF' c (tVar 4) 2) (tCons (tkL' c (tC (V.str (Str.ofString "zz"))) (tVar 4)) tNil))) (tLst (tCons (tkL' c (tC (V.str (Str.ofString "zz"))) (tVar 4)) tNil))) σ H (memsC z) := fun Q k => by
  refine (show tCall spLIsPath [] E0 (tCons (tVar 4) tNil) σ H _ from ?_)
  refine r_call (r_cons (r_var h4 (r_nil ?_)))
  refine sp_lispath (Nat.le_trans g.l (by decide)) fun H1 e1 => ?_
  refine ⟨_, rfl, ?_⟩
  unfold memsC at k
  cases hb : partsB z with
  | true =>
    rw [hb, if_pos rfl] at k
    rw [if_pos rfl]
    exact mkl_fl (val_v h4) val_c (val_v h4) g.n zz_name g.n (by decide) Q fun L xs G e hL hm => k L xs G (e1.trans e) hL hm
  | false =>
    rw [hb, if_neg (by decide)] at k
    rw [if_neg (by decide)]
    exact mkl_l val_c (val_v h4) zz_name g.n Q fun L xs G e hL hm => k L xs G (e1.trans e) hL hm
theorem mk_asg9 {te : TE} {ms : List Mem} (h : MkL c te σ H ms) (k : ∀ L xs G, Same H G → G L = some (.lst xs) → MemsAt c G xs ms → D.nx (σ.set 9 (some (.ref L))) G) : tAsg te (gName 9) D σ H := by
  refine (show te σ H _ from ?_)
  exact h _ fun L xs G e hL hm => r_gname (k L xs G e hL hm)
variable {q1 q2 q3 : Str} {a1 a2 a3 : Arguments} {b1 b2 b3 : Expr} {s1 s2 s3 : Scope} {c1 c2 c3 : List (Str × Addr)}
abbrev tForA (K : PySem.W.Frag) (c : Cs) (CT CH cR : Addr) (T : List (Addr × Str)) (qn : Str) (pa : Arguments) (bd : Expr) (sc : Scope) (cl : List (Str × Addr)) : TS :=
  tFor (iList K (tLst (tCons (tkF' c (tVar 4) 1) (tCons (tkD' c (tVar 4)) tNil)))) (gName 8) (tSeq (tAsg (tTold K CT CH c cR T qn pa bd sc cl (tLst (tCons (tVar 8) tNil))) (gName 7)) (tNeT K (tE1 K)))
theorem for_A {a p d : Addr} {i : Int} {v3 v5 v7 v8 v9 v10 : Option V} (g : NmOk z) (tabs : Tabs T H) (hd : H d = some (.lst (ds.map V.str))) (hpd : ds.Perm (dueP z)) (hs : sortedS ds = true)
    (k : ∀ w7 w8 G, ExtN H G → Tabs T G → D.nx (st a p d i z v3 v5 w7 w8 v9 v10) G) : tForA K c CT CH cR T qn pa bd sc cl D (st a p d i z v3 v5 v7 v8 v9 v10) H := by
  unfold tForA tFor iList
  refine mkl_fd (σ := st a p d i z v3 v5 v7 v8 v9 v10) (val_v rfl) g.n (by decide) _ fun L xs G e hL hm => ?_
  refine ⟨L, rfl, ⟨_, SqL.of hL⟩, ?_⟩
  have tG := LamX.Tabs.ext tabs e
  have eG : ExtN H G := ExtN.of e
  refine for_it (walk_list (xs := xs)) (fun _ σ H' => ∃ w7 w8, σ = st a p d i z v3 v5 w7 w8 v9 v10 ∧ ExtN G H' ∧ Tabs T H') ⟨_, _, rfl, ExtN.refl G, tG⟩ (fun _ σ H' _ ⟨_, _, _, e2, _⟩ => SqL.of (e2 _ _ hL nofun)) ?_ ?_
  · rintro j v σ Hc H' hj ⟨w7, w8, rfl, e2, t2⟩ ⟨rfl, hv⟩
    obtain ⟨m, hmi, y, rfl, hin⟩ := paired_at hm hv
    have mem := List.mem_of_getElem? hmi
    have facts : m.plain = true ∧ m.Ok ∧ m.nm = z ∧ m.isLnk = false := by
      simp only [List.mem_cons, List.not_mem_nil, or_false] at mem
      rcases mem with e | e <;> subst e
      · exact ⟨rfl, ok_f g.n (by decide), rfl, rfl⟩
      · exact ⟨rfl, ok_d g.n, rfl, rfl⟩
    obtain ⟨f1, f2, f3, f4⟩ := facts
    have hd2 : H' d = some (.lst (ds.map V.str)) := e2 _ _ (e _ _ hd) nofun
    refine r_gname ?_
    refine (show tAsg (tTold K CT CH c cR T qn pa bd sc cl (tLst (tCons (tVar 8) tNil))) (gName 7) _ (st a p d i z v3 v5 w7 (some (.ref y)) v9 v10) H' from ?_)
    refine told_step (fun Q k => told_A (m := m) (y := y) g t2 rfl (ins_ext f1 hin e2) f1 f2 f3 f4 hpd hs k) fun o b G' ho' e3 t3 ho => ?_
    subst ho'
    refine (show tNeT K (tE1 K) _ (st a p d i z v3 v5 (some (.ref b)) (some (.ref y)) v9 v10) G' from ?_)
    refine r_neT rfl ho (gives_E1 (Nat.le_trans g.l (by decide)) (e3 _ _ hd2 nofun)) fun H4 e4 => ?_
    exact ⟨_, _, rfl, (e2.trans e3).trans (ExtN.of e4), LamX.Tabs.ext t3 e4⟩
  · rintro σ Hc ⟨w7, w8, rfl, e2, t2⟩
    exact k _ _ _ (eG.trans e2) t2
/-- one name's turn, behind its paths -/
abbrev tTurn (K : PySem.W.Frag) (c : Cs) (CT CH cR : Addr) (T : List (Addr × Str)) (q1 q2 q3 : Str) (a1 a2 a3 : Arguments) (b1 b2 b3 : Expr) (s1 s2 s3 : Scope) (c1 c2 c3 : List (Str × Addr)) : TS :=
  tSeq (tForA K c CT CH cR T q1 a1 b1 s1 c1) (tSeq (tAsg (tLst (tCons (tkF' c (tC (V.str (Str.ofString "zz"))) 2) (tCons (tkL' c (tVar 4) (tC (V.str (Str.ofString "zz")))) tNil))) (gName 9))
    (tSeq (tAsg (tTold K CT CH c cR T q2 a2 b2 s2 c2 (tVar 9)) (gName 7)) (tSeq (tNeT K (tE2 K 1 (Str.ofString "name")))
      (tSeq (tAsg (tIf tIsP (tLst (tCons (tkF' c (tVar 4) 2) (tCons (tkL' c (tC (V.str (Str.ofString "zz"))) (tVar 4)) tNil))) (tLst (tCons (tkL' c (tC (V.str (Str.ofString "zz"))) (tVar 4)) tNil))) (gName 9))
        (tSeq (tAsg (tTold K CT CH c cR T q3 a3 b3 s3 c3 (tVar 9)) (gName 7)) (tNeT K (tE2 K 0 (Str.ofString "target"))))))))
theorem ok_turn {a p d : Addr} {i : Int} {v3 v5 v7 v8 v9 v10 : Option V} (g : NmOk z) (tabs : Tabs T H) (hd : H d = some (.lst (ds.map V.str))) (hpd : ds.Perm (dueP z)) (hs : sortedS ds = true)
    (k : ∀ w7 w8 w9 G, ExtN H G → Tabs T G → D.nx (st a p d i z v3 v5 w7 w8 w9 v10) G) : tTurn K c CT CH cR T q1 q2 q3 a1 a2 a3 b1 b2 b3 s1 s2 s3 c1 c2 c3 D (st a p d i z v3 v5 v7 v8 v9 v10) H := by
  have hl : ds.length ≤ 40 := by rw [hpd.length_eq]; exact Nat.le_trans g.d (by decide)
  have toD : ∀ {es : List Str}, (partsB z = true → es.Perm (dueP z ++ [("zz" : Str)]) ∧ sortedS es = true) → (partsB z = true → es.Perm (ds ++ [("zz" : Str)]) ∧ sortedS es = true) := fun h hp => ⟨(h hp).1.trans (List.Perm.append hpd.symm (List.Perm.refl _)), (h hp).2⟩
  have zl : z.length ≤ 1000 := Nat.le_trans g.l (by decide)
  refine for_A g tabs hd hpd hs fun w7 w8 G1 e1 t1 => ?_
  have hd1 : G1 d = some (.lst (ds.map V.str)) := e1 _ _ hd nofun
  refine (show tAsg (tLst (tCons (tkF' c (tC (V.str (Str.ofString "zz"))) 2) (tCons (tkL' c (tVar 4) (tC (V.str (Str.ofString "zz")))) tNil))) (gName 9) _ (st a p d i z v3 v5 w7 w8 v9 v10) G1 from ?_)
  refine mk_asg9 (mkl_fl (c := c) (z := "zz") (u := z) (g := "zz") (n := 2) val_c (val_v rfl) val_c zz_name g.n zz_name (by decide)) fun L xs G2 e2 hL hm => ?_
  have t2 := LamX.Tabs.ext t1 e2
  refine (show tAsg (tTold K CT CH c cR T q2 a2 b2 s2 c2 (tVar 9)) (gName 7) _ (st a p d i z v3 v5 w7 w8 (some (.ref L)) v10) G2 from ?_)
  refine told_step (fun Q k => told_B g t2 rfl hL hm k) fun o b G3 ho' e3 t3 ho => ?_
  obtain ⟨es, hes, rfl⟩ := ho'
  refine (show tNeT K (tE2 K 1 (Str.ofString "name")) _ (st a p d i z v3 v5 (some (.ref b)) w8 (some (.ref L)) v10) G3 from ?_)
  have hd3 : G3 d = some (.lst (ds.map V.str)) := e3 _ _ (e2 _ _ hd1) nofun
  refine r_neT rfl ho (gives_E2 zl hd3 hl (toD hes)) fun G4 e4 => ?_
  have t4 := LamX.Tabs.ext t3 e4
  refine (show tAsg (tIf tIsP (tLst (tCons (tkF' c (tVar 4) 2) (tCons (tkL' c (tC (V.str (Str.ofString "zz"))) (tVar 4)) tNil))) (tLst (tCons (tkL' c (tC (V.str (Str.ofString "zz"))) (tVar 4)) tNil))) (gName 9) _ (st a p d i z v3 v5 (some (.ref b)) w8 (some (.ref L)) v10) G4 from ?_)
  refine mk_asg9 (mkl_C (c := c) g rfl) fun L2 xs2 G5 e5 hL2 hm2 => ?_
  have t5 := LamX.Tabs.ext t4 e5
  refine (show tAsg (tTold K CT CH c cR T q3 a3 b3 s3 c3 (tVar 9)) (gName 7) _ (st a p d i z v3 v5 (some (.ref b)) w8 (some (.ref L2)) v10) G5 from ?_)
  refine told_step (fun Q k => told_C g t5 rfl hL2 hm2 k) fun o2 b2 G6 ho3 e6 t6 ho2 => ?_
  obtain ⟨es2, hes2, rfl⟩ := ho3
  refine (show tNeT K (tE2 K 0 (Str.ofString "target")) _ (st a p d i z v3 v5 (some (.ref b2)) w8 (some (.ref L2)) v10) G6 from ?_)
  have hd6 : G6 d = some (.lst (ds.map V.str)) := e6 _ _ (e5 _ _ (e4 _ _ hd3)) nofun
  refine r_neT rfl ho2 (gives_E2 zl hd6 hl (toD hes2)) fun G7 e7 => ?_
  exact k _ _ _ _ (((((e1.trans (ExtN.of e2)).trans e3).trans (ExtN.of (e4.trans e5))).trans e6).trans (ExtN.of e7)) (LamX.Tabs.ext t6 e7)
end
open LamX (Tabs TabB ExtN)
theorem op_orR {X : Cx} {op : Value → Value → Sem Value} {R1 R2 : L2.R2} (h1 : OpR X op R1) (h2 : OpR X op R2) : OpR X op (fun x y H Q => R1 x y H Q ∨ R2 x y H Q) := fun pins s σ H x y v u Q I rx ry h => h.elim (fun h => h1 pins s σ H x y v u Q I rx ry h) (fun h => h2 pins s σ H x y v u Q I rx ry h)
def ButN (a : Addr) (H H' : Hp) : Prop := ∀ b o, b ≠ a → H b = some o → (∀ ps, o ≠ .tbl ps) → H' b = some o
theorem But.n {a : Addr} {H H' : Hp} (h : But a H H') : ButN a H H' := fun b o n e _ => h b o n e
theorem ButN.ext {a : Addr} {H H' : Hp} (h : ExtN H H') : ButN a H H' := fun b o _ e n => h b o e n
theorem tabs_but {T : List (Addr × Str)} {n : Nat} {a : Addr} {H H' : Hp} (t : Tabs T H) (hs : SrcB n H a) (b : But a H H') : Tabs T H' := fun p hp => by
  obtain ⟨ps, h1, h2, h3⟩ := t p hp
  obtain ⟨l, m, c, ha, _⟩ := hs
  refine ⟨ps, b _ _ (fun z => by rw [z, ha] at h1; cases h1) h1, h2, fun pos cv hc => ?_⟩
  obtain ⟨c0, e1, e2⟩ := h3 pos cv hc
  refine ⟨c0, e1, b _ _ (fun z => ?_) e2⟩
  rw [z, ha] at e2
  unfold LamX.CodeO at e2
  cases e2
theorem SrcB.ext {n : Nat} {a : Addr} {H H' : Hp} (h : SrcB n H a) (e : ExtN H H') : SrcB n H' a := by
  obtain ⟨l, m, c, h1, h2⟩ := h
  exact ⟨l, m, c, e _ _ h1 nofun, h2⟩
/-- the script's list, for good -/
def ScA (K : PySem.W.Frag) (a : Addr) (ns : List Int) (H : Hp) : Prop := (∀ G, SqL K G a (ns.map V.int)) ∨ ∃ o, H a = some o ∧ (∀ ps, o ≠ .tbl ps) ∧ ∀ G : Hp, G a = some o → SqL K G a (ns.map V.int)
def ScB (K : PySem.W.Frag) (a : Addr) (ns : List Int) (p : Addr) (H : Hp) : Prop := (∀ G, SqL K G a (ns.map V.int)) ∨ (a ≠ p ∧ ∃ o, H a = some o ∧ (∀ ps, o ≠ .tbl ps) ∧ ∀ G : Hp, G a = some o → SqL K G a (ns.map V.int))
theorem ScA.of {K : PySem.W.Frag} {a : Addr} {ns : List Int} {H : Hp} (h : SqL K H a (ns.map V.int)) : ScA K a ns H := by
  rcases h with h | h
  · rcases h with h | ⟨o, h⟩
    · exact .inr ⟨_, h, (fun _ z => nomatch z), fun G e => .inl (.inl e)⟩
    · exact .inr ⟨_, h, (fun _ z => nomatch z), fun G e => .inl (.inr ⟨o, e⟩)⟩
  · exact .inl fun G => .inr h
theorem ScA.sq {K : PySem.W.Frag} {a : Addr} {ns : List Int} {H : Hp} (h : ScA K a ns H) : SqL K H a (ns.map V.int) := by
  rcases h with h | ⟨o, e, _, k⟩
  · exact h _
  · exact k _ e
theorem ScA.src {K : PySem.W.Frag} {a p : Addr} {ns : List Int} {H H1 : Hp} (h : ScA K a ns H) (hp : H p = none) (e : Same H H1) : ScB K a ns p H1 := by
  rcases h with h | ⟨o, eo, n, k⟩
  · exact .inl h
  · exact .inr ⟨ne_of_none eo hp, o, e _ _ eo, n, k⟩
theorem ScB.but {K : PySem.W.Frag} {a p : Addr} {ns : List Int} {H H1 : Hp} (h : ScB K a ns p H) (b : ButN p H H1) : ScB K a ns p H1 := by
  rcases h with h | ⟨np, o, eo, n, k⟩
  · exact .inl h
  · exact .inr ⟨np, o, b _ _ np eo n, n, k⟩
theorem ScB.a {K : PySem.W.Frag} {a p : Addr} {ns : List Int} {H : Hp} (h : ScB K a ns p H) : ScA K a ns H := by
  rcases h with h | ⟨np, o, eo, n, k⟩
  · exact .inl h
  · exact .inr ⟨o, eo, n, k⟩
section
variable {P : Program} {w : World} {K : PySem.W.Frag} {mg : Str → Option Value} {base : Heap}
def spLawT (K : PySem.W.Frag) (T : List (Addr × Str)) : Sp := fun vs H Q _ => ∃ (a : Addr) (ns : List Int), vs = [.ref a] ∧ SqL K H a (ns.map V.int) ∧ ns.length ≤ 63 ∧ Tabs T H ∧ ∀ H', Q (.bl true) H'
theorem ok_law {f CH CT cR cA PA : Addr} {c : Cs} {fd : FuncData} {T : List (Addr × Str)} (F : FunC K "law" "law" s_law f fd cA) (TB : TabB base mg cA PA) (inT : (PA, ("law" : Str) ++ ".<locals>.<lambda>") ∈ T) (one : ∀ p ∈ T, p.1 = PA → p.2 = ("law" : Str) ++ ".<locals>.<lambda>")
    (m1 : mg "max" = none) (m2 : mg "min" = none) (m3 : mg "len" = none) (m4 : mg "range" = none) (m5 : mg "sorted" = none)
    (c_source : CalT P w K mg base 2 "_law_source" (spSource K)) (c_draw : CalT P w K mg base 2 "_law_draw" spDraw) (c_blob : CalT P w K mg base 4 "blob" spBlob) (c_lname : CalT P w K mg base 3 "_law_name" spLName) (c_lispath : CalT P w K mg base 2 "_law_is_path" spLIsPath) (e_told : CalL P w K mg base 14 "_law_told" (TTtold K CH cR)) (x_unpd : CalX P w K mg base 6 "unpacked" (spUnpdX K CT CH c cR))
    (mk_FileD : MakS P w K mg base 5 "File" c.F [] (fun vs zs H Q => zs = [] ∧ ∀ E, spFileI c.F (vs ++ [.int 420, .int 0]) H Q E)) (mk_DirD : MakS P w K mg base 5 "Directory" c.D [] (fun vs zs H Q => zs = [] ∧ ∀ E, spDirI c.D (vs ++ [.int 493, .int 0]) H Q E)) (mk_LinkD : MakS P w K mg base 5 "Link" c.L [] (fun vs zs H Q => zs = [] ∧ ∀ E, spSymI c.L (vs ++ [.int 420, .int 0]) H Q E))
    (mk0_House : Mk0T P w K mg base 2 "House" CH (spHInit CH)) : FnG P w K mg base 18 f fd ["_law_script"] (spLawT K T) := by
  refine FunC.okG (k := 17) F sc_law (fun vs H Q E9 h => ?_) (fun A outer s H vs Q E9 hr gd0 h => ?_)
  · obtain ⟨a, ns, rfl, _⟩ := h
    rfl
  · obtain ⟨a, ns, rfl, ha, hn, tabs, q⟩ := h
    have hu := hu_of hr
    have hu64 := hr.units
    have nd := sc_law.nd
    have gd : (A.deeper (envOfC "law" (defScope s_law) s.heap.objs.size f (.ref cA))).guards = some [] := gd0
    have code : (Value.ref cA) = .ref cA := rfl
    refine ⟨_, (pss_cons (ps_for PassesOwn.never rfl (pi_range1 (by rfl) (by assumption) (pa_cons (pe_callB call_rMax2 (by rfl) (by assumption) (by decide +kernel) (pa_cons pe_int (pa_cons (pe_callB call_rMin2 (by rfl) (by assumption) (by decide +kernel) (pa_cons pe_int (pa_cons (pe_callB (call_lenK K) (by rfl) (by assumption) (by decide +kernel) (pa_cons (pv 0) pa_nil)) pa_nil))) pa_nil))) pa_nil)) (pg_name (i := 1) nd rfl (Or.inl rfl))
        (pss_cons (ps_set (i := 2) nd rfl (Or.inl rfl) (pe_cc c_source hr (by omega) (by rfl) (pa_cons (pv 0) (pa_cons (pv 1) pa_nil))))
      (pss_one (ps_for PassesOwn.never rfl (pi_range1 (by rfl) (by assumption) (pa_cons pe_int pa_nil)) (pg_name (i := 3) nd rfl (Or.inl rfl))
        (pss_cons (ps_set (i := 4) nd rfl (Or.inl rfl) (pe_cc c_lname hr (by omega) (by rfl) (pa_cons (pv 2) pa_nil)))
      (pss_cons (ps_set (i := 5) nd rfl (Or.inr rfl) (pe_splitN (pe_split (pv 4) pe_str)))
      (pss_cons (ps_set (i := 6) nd rfl (Or.inl rfl) (pe_callB (cr_sortedK K) (by rfl) (by assumption) (by decide +kernel) (pa_cons (pe_lc (own := [("_law_many", 10)]) (g := (gName 10)) (tt := tYes) rfl nd (pi_range2 (by rfl) (by assumption) (pa_cons pe_int (pa_cons (pe_op op_add (pe_callB (call_lenK K) (by rfl) (by assumption) (by decide +kernel) (pa_cons (pv 5) pa_nil)) pe_int) pa_nil))) (blkOk_by (N := N_law) (sc := defScope s_law) (by decide +kernel)) (fun _ _ _ _ _ => (pg_name (i := 10) nd rfl (Or.inl rfl))) (fun _ _ _ _ _ => pts_nil) (fun _ _ _ _ _ => (pe_bmK K PySem.F.plainAttrs_str PySem.F.slot_str_join PySem.F.type_str_join (mt_joinK K) pe_str (pa_cons (pe_slice (sl_listK K) (pv 5) po_none (po_some (pv 10))) pa_nil)))) pa_nil)))
      (pss_cons (ps_for PassesOwn.never rfl (pi_list (pe_lst (pa_cons (pe_mks mk_FileD hr (by omega) (by rfl) (pa_cons (pv 4) (pa_cons (pe_cc c_blob hr (by omega) (by rfl) (pa_cons (pe_lst (pa_cons pe_int pa_nil)) pa_nil)) pa_nil)) pk_nil) (pa_cons (pe_mks mk_DirD hr (by omega) (by rfl) (pa_cons (pv 4) pa_nil) pk_nil) pa_nil)))) (pg_name (i := 8) nd rfl (Or.inr rfl))
        (pss_cons (ps_set (i := 7) nd rfl (Or.inl rfl) (pe_callTL (k2 := 12) e_told hr (by omega) (by omega) gd (by rfl) TB code inT one (LamX.lamS_by (by show LamX.lamSB (defScope s_law) _ = true; decide +kernel)) rfl (fun _ _ _ _ _ => rfl) (fun A_ o_ s_ H_ E_ f_ c_ hr gd => (pe_cp x_unpd hr (by omega) (by rfl) (passes_call (takes_of rfl rfl rfl rfl) (fun _ _ _ _ h => h)) (pa_cons (pe_mk0 mk0_House hr (by omega) (by rfl)) (pa_cons (pe_lst (pa_cons (pv 8) pa_nil)) pa_nil))))))
      (pss_one (ps_if (pt_cmpR (op_orR (op_neStrK K (hr.mono (by omega))) (op_neThK K (hr.mono (by omega)))) (pv 7) (pe_ifExp (pt_val (pe_cc c_lispath hr (by omega) (by rfl) (pa_cons (pv 4) pa_nil))) (pv 6) (pe_tup (pa_cons pe_int (pa_cons pe_str pa_nil)))) (nomark _))
        (pss_one (ps_ret pe_bl))
        pss_nil))))
      (pss_cons (ps_set (i := 9) nd rfl (Or.inr rfl) (pe_lst (pa_cons (pe_mks mk_FileD hr (by omega) (by rfl) (pa_cons pe_str (pa_cons (pe_cc c_blob hr (by omega) (by rfl) (pa_cons (pe_lst (pa_cons pe_int pa_nil)) pa_nil)) pa_nil)) pk_nil) (pa_cons (pe_mks mk_LinkD hr (by omega) (by rfl) (pa_cons (pv 4) (pa_cons pe_str pa_nil)) pk_nil) pa_nil))))
      (pss_cons (ps_set (i := 7) nd rfl (Or.inl rfl) (pe_callTL (k2 := 12) e_told hr (by omega) (by omega) gd (by rfl) TB code inT one (LamX.lamS_by (by show LamX.lamSB (defScope s_law) _ = true; decide +kernel)) rfl (fun _ _ _ _ _ => rfl) (fun A_ o_ s_ H_ E_ f_ c_ hr gd => (pe_cp x_unpd hr (by omega) (by rfl) (passes_call (takes_of rfl rfl rfl rfl) (fun _ _ _ _ h => h)) (pa_cons (pe_mk0 mk0_House hr (by omega) (by rfl)) (pa_cons (pv 9) pa_nil))))))
      (pss_cons (ps_if (pt_cmpR (op_orR (op_neStrK K (hr.mono (by omega))) (op_neThK K (hr.mono (by omega)))) (pv 7) (pe_ifExp (pt_val (pe_cc c_lispath hr (by omega) (by rfl) (pa_cons (pv 4) pa_nil))) (pe_callB (cr_sortedK K) (by rfl) (by assumption) (by decide +kernel) (pa_cons (pe_op op_cat (pv 6) (pe_lst (pa_cons pe_str pa_nil))) pa_nil)) (pe_tup (pa_cons pe_int (pa_cons pe_str pa_nil)))) (nomark _))
        (pss_one (ps_ret pe_bl))
        pss_nil)
      (pss_cons (ps_set (i := 9) nd rfl (Or.inr rfl) (pe_ifExp (pt_val (pe_cc c_lispath hr (by omega) (by rfl) (pa_cons (pv 4) pa_nil))) (pe_lst (pa_cons (pe_mks mk_FileD hr (by omega) (by rfl) (pa_cons (pv 4) (pa_cons (pe_cc c_blob hr (by omega) (by rfl) (pa_cons (pe_lst (pa_cons pe_int pa_nil)) pa_nil)) pa_nil)) pk_nil) (pa_cons (pe_mks mk_LinkD hr (by omega) (by rfl) (pa_cons pe_str (pa_cons (pv 4) pa_nil)) pk_nil) pa_nil))) (pe_lst (pa_cons (pe_mks mk_LinkD hr (by omega) (by rfl) (pa_cons pe_str (pa_cons (pv 4) pa_nil)) pk_nil) pa_nil))))
      (pss_cons (ps_set (i := 7) nd rfl (Or.inl rfl) (pe_callTL (k2 := 12) e_told hr (by omega) (by omega) gd (by rfl) TB code inT one (LamX.lamS_by (by show LamX.lamSB (defScope s_law) _ = true; decide +kernel)) rfl (fun _ _ _ _ _ => rfl) (fun A_ o_ s_ H_ E_ f_ c_ hr gd => (pe_cp x_unpd hr (by omega) (by rfl) (passes_call (takes_of rfl rfl rfl rfl) (fun _ _ _ _ h => h)) (pa_cons (pe_mk0 mk0_House hr (by omega) (by rfl)) (pa_cons (pv 9) pa_nil))))))
      (pss_one (ps_if (pt_cmpR (op_orR (op_neStrK K (hr.mono (by omega))) (op_neThK K (hr.mono (by omega)))) (pv 7) (pe_ifExp (pt_val (pe_cc c_lispath hr (by omega) (by rfl) (pa_cons (pv 4) pa_nil))) (pe_callB (cr_sortedK K) (by rfl) (by assumption) (by decide +kernel) (pa_cons (pe_op op_cat (pv 6) (pe_lst (pa_cons pe_str pa_nil))) pa_nil)) (pe_tup (pa_cons pe_int (pa_cons pe_str pa_nil)))) (nomark _))
        (pss_one (ps_ret pe_bl))
        pss_nil)))))))))))))))
      (pss_one (ps_ret pe_bl))), ?_⟩
    have hml : (ns.map V.int).length = ns.length := List.length_map ..
    walk_at "rd"
    refine for_it (walk_range (lo := 0) (n := _)) (fun i σ H' => ∃ v1 v2 v3 v4 v5 v6 v7 v8 v9 v10 : Option V, σ = [some (.ref a), v1, v2, v3, v4, v5, v6, v7, v8, v9, v10] ∧ ScA K a ns H' ∧ Tabs T H') ?_ (fun _ _ _ _ _ => True.intro) ?_ ?_
    · exact ⟨_, _, _, _, _, _, _, _, _, _, rfl, ScA.of ha, tabs⟩
    · rintro i x σ Hc H' hi ⟨v1, v2, v3, v4, v5, v6, v7, v8, v9, v10, rfl, eS, eT⟩ ⟨rfl, hx⟩
      simp only [Int.zero_add] at hx
      subst hx
      have hi4 : i ≤ 63 := by
        revert hi
        split
        · split <;> omega
        · omega
      walk_at "rd"
      refine sp_source eS.sq hn hi4 (fun p H1 hp e1 hs1 => ?_)
      have B1 := eS.src hp e1
      have T1 := LamX.Tabs.ext eT e1
      walk_at "rd"
      refine for_it (walk_range (lo := 0) (n := _)) (fun j σ H' => ∃ v3 v4 v5 v6 v7 v8 v9 v10 : Option V, σ = [some (.ref a), some (.int (i : Int)), some (.ref p), v3, v4, v5, v6, v7, v8, v9, v10] ∧ ScB K a ns p H' ∧ SrcB (11 * j) H' p ∧ Tabs T H') ?_ (fun _ _ _ _ _ => True.intro) ?_ ?_
      · exact ⟨_, _, _, _, _, _, _, _, rfl, B1, hs1, T1⟩
      · rintro j x σ Hc H' hj ⟨v3, v4, v5, v6, v7, v8, v9, v10, rfl, eB, sB, tB⟩ ⟨rfl, hx⟩
        subst hx
        have hj8 : j < 8 := by omega
        refine r_gname ?_
        walk_at "rd"
        refine ⟨p, 11 * j, rfl, sB, by omega, fun z H2 nz az zz s2 b2 => ?_⟩
        have t2 := tabs_but tB sB b2
        have eB2 := eB.but b2.n
        clear tB sB eB
        have zl : z.length ≤ 250 := (of_name nz).2.1
        have hn1 := PyProof.Rows.split_pos z "/"
        have hn : (Txt.split z "/").length ≤ 11 := by
          have := congrArg List.length (due_eq z)
          unfold dueP at this
          rw [List.length_map, List.length_range, List.length_append, List.length_singleton] at this
          omega
        walk_at "rd"
        refine r_split (by decide) (Nat.le_trans (Nat.add_le_add_right zl 2) (by decide)) fun L hL => ?_
        have gL : upd H2 L (.lst ((Txt.split z "/").map V.str)) L = some (.lst ((Txt.split z "/").map V.str)) := upd_same
        have hml2 : ((Txt.split z "/").map V.str).length = (Txt.split z "/").length := List.length_map ..
        walk_at "rd"
        refine ⟨_, _, rfl, ⟨by decide, by decide, by rw [hml2]; omega, by rw [hml2]; omega⟩, ?_⟩
        intro D hD
        refine lc_it (walk_range (lo := 1) (n := _)) (fun i H' => Same (upd H2 L (.lst ((Txt.split z "/").map V.str))) H' ∧ H' D = some (.lst (((List.range i).map fun i => Txt.join "/" ((Txt.split z "/").take (i + 1))).map V.str))) ⟨same_new hD, by rw [upd_same]; rfl⟩ (fun _ _ _ _ => True.intro) ?_ ?_
        · rintro i9 x Hc H' hi ⟨e, hb'⟩ ⟨rfl, hx⟩
          have hi' : i9 < (Txt.split z "/").length := by
            rw [hml2] at hi
            omega
          have hx' : x = .int (((i9 + 1 : Nat) : Int)) := by rw [hx]; show V.int (1 + (i9 : Int)) = V.int (((i9 + 1 : Nat) : Int)); congr 1; omega
          subst hx'
          clear hx
          walk_at "rd"
          refine ⟨rfl, ?_⟩
          unfold tYes
          dsimp only
          rw [if_pos rfl]
          walk_at "rd"
          refine ⟨rfl, ?_⟩
          walk_at "rd"
          refine r_slL (SqL.of (e _ _ gL)) fun q1 hq1 => ?_
          rw [cutV_take _ _ (by rw [hml2]; omega), ← List.map_take]
          refine ⟨_, _, _, rfl, rfl, .inl (SqL.of upd_same), ?_, ?_⟩
          · have h1 := Nat.le_trans (sum_take (Txt.split z "/") (i9 + 1)) (sum_split z "/")
            have h2 : ((Txt.split z "/").take (i9 + 1)).length ≤ 1002 := by rw [List.length_take]; omega
            have h3 : ((Txt.split z "/").take (i9 + 1)).length * ("/" : Str).length ≤ 1002 := by
              rw [show ("/" : Str).length = 1 from rfl, Nat.mul_one]
              exact h2
            omega
          refine ⟨_, (same_new hq1) _ _ hb', Nat.lt_of_le_of_lt (by rw [List.length_map, List.length_map, List.length_range]; omega : _ ≤ 1002) (by decide), fun b o eo => by rw [upd_ne (ne_of_none eo hD)]; exact (same_new hq1) _ _ (e _ _ eo), ?_⟩
          rw [upd_same, List.range_succ, List.map_append, List.map_append]
          rfl
        · rintro H3 ⟨e, hb'⟩
          have hdue : H3 D = some (.lst ((dueP z).map V.str)) := by
            rw [hb', hml2]
            unfold dueP
            congr 5
            omega
          walk_at "rd"
          refine r_sortedS (SqL.of hdue) (by unfold dueP; rw [List.length_map, List.length_range]; omega) fun ds d hpd hsd hd => ?_
          have S4 : Same H2 (upd H3 d (.lst (ds.map V.str))) := ((same_new hL).trans e).trans (same_new hd)
          have t4 := LamX.Tabs.ext t2 S4
          refine r_gname ?_
          refine (show tTurn K c CT CH cR T _ _ _ _ _ _ _ _ _ _ _ _ _ _ _ _ (st a p d (i : Int) z _ _ _ _ _ _) _ from ?_)
          refine ok_turn ⟨nz, az, zz⟩ t4 upd_same hpd hsd fun w7 w8 w9 G eG tG => ?_
          have x24 : ExtN H2 G := (ExtN.of S4).trans eG
          exact ⟨_, _, _, _, _, _, _, _, rfl, eB2.but (ButN.ext x24), (s2.mono (by omega)).ext x24, tG⟩
      · rintro σ H5 ⟨v3, v4, v5, v6, v7, v8, v9, v10, rfl, eB, sB, tB⟩
        exact ⟨_, _, _, _, _, _, _, _, _, _, rfl, eB.a, tB⟩
    · rintro σ H6 ⟨v1, v2, v3, v4, v5, v6, v7, v8, v9, v10, rfl, eS, eT⟩
      walk_at "rd"
      exact q _
end
open LamX (Tabs TabB ExtN)
structure KindF (K : PySem.W.Frag) (C : Addr) (z : Str) : Prop where
  ex : ∃ mc u, ClX.CRead K C mc ∧ ClX.CVal K C mc "KIND" (.str z) u
/-! ### what the top has written -/
structure DefF (K : PySem.W.Frag) (x : Str) (st : Stmt) (f : Addr) : Prop where
  ns : PySem.W.nsIn K mainGlobals x = some (some (.ref f))
  fn : ∃ (oc : Value) (od an : Option Addr) (kV doc pm cdv ct : Value) (osl : Array (Option Value)), K.lookup f = some ⟨oc, od, .func (PySem.W.fnOf x x (defArgs st) (defBody st) (defScope st) .none kV doc pm an cdv ct), osl⟩ ∧ PySem.W.codeIn K cdv x = true
  kp : PySem.W.keepIn K (.ref f) = true
theorem DefF.fun_ {K : PySem.W.Frag} {x : Str} {st : Stmt} {f : Addr} (d : DefF K x st f) : ∃ fd, Fun K x x st f fd := by
  obtain ⟨oc, od, an, kV, doc, pm, cdv, ct, osl, l, c⟩ := d.fn
  exact ⟨_, fun_mk l c d.kp⟩
section
variable {P : Program} {w : World} {K : PySem.W.Frag} {mg : Str → Option Value} {base : Heap}
theorem cal_mk {h : Heap} {x : Str} {st : Stmt} {f : Addr} {ps : List Str} {k : Nat} {sp : Sp} (X : K.In h) (G : h.Ns mainGlobals mg) (d : DefF K x st f)
    (hb : ∀ (kV doc pm : Value) (an : Option Addr) (cdv ct : Value) (us : List Value), us.length = ps.length → bindArgs (PySem.W.fnOf x x (defArgs st) (defBody st) (defScope st) .none kV doc pm an cdv ct) ⟨us, []⟩ = pure (ps.zip us))
    (ok : ∀ fd, Fun K x x st f fd → FnOk P w K mg base CX0 k f fd ps sp) : CalT P w K mg base k x sp := by
  obtain ⟨fd, F⟩ := d.fun_
  exact ⟨f, fd, ps, ok fd F, PySem.W.mg_of X G d.ns, d.kp, F.binds hb⟩
end
/-! ### classes with a KIND, as the top leaves them -/
structure ClsF (K : PySem.W.Frag) (x kind : Str) (C aM fI : Addr) (attrs : List Str) : Prop where
  ns : PySem.W.nsIn K mainGlobals x = some (some (.ref C))
  cl : Cls K C
  mkk : Mk K C fI
  cf : CF K C aM kind
  kind : KindF K C kind
  na : ∀ f ∈ attrs, NoAttr K C f
theorem clsF_mk {K : PySem.W.Frag} {x kind : Str} {C aM fI : Addr} {r : List Str} {t : Tok} (ns : PySem.W.nsIn K mainGlobals x = some (some (.ref C)))
    (pg : PySem.W.plainGet K C Str.empty = true) (hd : PySem.W.hasDictIn K C = true) (po : PySem.W.plainOver K C = true) (sa : PySem.W.findIn K (.ref C) "__setattr__" = some (some (.builtin "object.__setattr__")))
    (mk : PySem.W.makesIn K C = true) (ini : PySem.W.findIn K (.ref C) "__init__" = some (some (.ref fI))) (ifn : PySem.W.isFn K (.ref fI) = true) (kp : PySem.W.keepIn K (.ref C) = true)
    (ha : PySem.W.findIn K (.ref C) "__class__" = some (some (.builtin "object.__class__"))) (hm : PySem.W.mroIn K C (.type "object") = some true) (kit : PySem.W.kitOne K (.ref C) (.ref aM) = some true)
    (kat : PySem.W.findIn K (.ref C) "KIND" = some (some (.str kind t))) (kget : PySem.W.specialIn K (.str kind t) "__get__" = some none) (krd : PySem.W.readsIn K C (.type "type") = true)
    (kga : PySem.W.specialIn K (.ref C) "__getattribute__" = some (some (.builtin "type.__getattribute__"))) (kcl : PySem.W.findCls K (.ref C) (.type "type") "KIND" = some (.val (.str kind t)))
    (hn : PySem.W.specialIn K (.builtin "object.__class__") "__get__" = some (some (.builtin "getset_descriptor.__get__"))) (htk : PySem.W.takesIn K (.builtin "object.__class__") = some true)
    (na : ∀ f ∈ ("name" :: "mode" :: "time" :: r : List Str), PySem.W.findIn K (.ref C) f = some none) : ClsF K x kind C aM fI ("name" :: "mode" :: "time" :: r) :=
  ⟨ns, ⟨pg, hd, po, sa⟩, ⟨mk, ini, ifn, kp⟩, ⟨⟨pg, hd, po, sa⟩, ha, hn, htk, hm, kit, ⟨_, kat, ⟨t, rfl⟩, kget, by decide⟩, na _ (by simp), na _ (by simp), na _ (by simp)⟩, ⟨_, _, ⟨krd, kga⟩, ⟨kcl, ⟨t, rfl⟩⟩⟩, na⟩
structure IniF (K : PySem.W.Frag) (qual : Str) (st : Stmt) (b : Int) (f : Addr) : Prop where
  ex : ∃ (oc : Value) (od : Option Addr) (D : Addr) (doc pm : Value) (an : Option Addr) (cdv ct : Value) (osl : Array (Option Value)) (t1 t2 : Tok),
    K.lookup f = some ⟨oc, od, .func (PySem.W.fnOf "__init__" qual (defArgs st) (defBody st) (defScope st) .none (.ref D) doc pm an cdv ct), osl⟩ ∧ PySem.W.codeIn K cdv qual = true ∧ PySem.W.nsIn K D "mode" = some (some (.int b t1)) ∧ PySem.W.nsIn K D "time" = some (some (.int 0 t2))
  kp : PySem.W.keepIn K (.ref f) = true
theorem iniF_mk {K : PySem.W.Frag} {qual : Str} {st : Stmt} {b : Int} {f : Addr} {oc : Value} {od : Option Addr} {D : Addr} {doc pm : Value} {an : Option Addr} {cdv ct : Value} {osl : Array (Option Value)} {t1 t2 : Tok}
    (il : K.lookup f = some ⟨oc, od, .func (PySem.W.fnOf "__init__" qual (defArgs st) (defBody st) (defScope st) .none (.ref D) doc pm an cdv ct), osl⟩) (ic : PySem.W.codeIn K cdv qual = true) (ik : PySem.W.keepIn K (.ref f) = true)
    (i1 : PySem.W.nsIn K D "mode" = some (some (.int b t1))) (i2 : PySem.W.nsIn K D "time" = some (some (.int 0 t2))) : IniF K qual st b f := ⟨⟨oc, od, D, doc, pm, an, cdv, ct, osl, t1, t2, il, ic, i1, i2⟩, ik⟩
theorem IniF.fun_ {K : PySem.W.Frag} {qual : Str} {st : Stmt} {b : Int} {f : Addr} (d : IniF K qual st b f) : ∃ fd, FunD K "__init__" qual (defArgs st) (defBody st) (defScope st) [] [("mode", .int b), ("time", .int 0)] f fd := by
  obtain ⟨oc, od, D, doc, pm, an, cdv, ct, osl, t1, t2, il, ic, i1, i2⟩ := d.ex
  refine ⟨_, ⟨oc, od, .none, .ref D, doc, pm, an, cdv, ct, osl, rfl, il, ic, .inl ⟨rfl, rfl⟩, .inr ⟨D, rfl, ?_⟩⟩, d.kp⟩
  intro q hq
  simp only [List.mem_cons, List.not_mem_nil, or_false] at hq
  rcases hq with rfl | rfl
  · exact ⟨_, i1, ⟨_, rfl⟩⟩
  · exact ⟨_, i2, ⟨_, rfl⟩⟩
structure MetF (K : PySem.W.Frag) (C : Addr) (m qual : Str) (st : Stmt) (f : Addr) : Prop where
  me : Meth K C m f
  fn : ∃ (oc : Value) (od an : Option Addr) (kV doc pm cdv ct : Value) (osl : Array (Option Value)), K.lookup f = some ⟨oc, od, .func (PySem.W.fnOf m qual (defArgs st) (defBody st) (defScope st) .none kV doc pm an cdv ct), osl⟩ ∧ PySem.W.codeIn K cdv qual = true
theorem MetF.meth {P : Program} {w : World} {K : PySem.W.Frag} {mg : Str → Option Value} {base : Heap} {C : Addr} {m qual : Str} {st : Stmt} {f : Addr} {k : Nat} {sp : Sp} (t : MetF K C m qual st f) (hc : Cls K C) (ok : ∀ fd, Fun K m qual st f fd → FnOk P w K mg base CX0 k f fd ["self"] sp)
    (hb : ∀ (kV doc pm : Value) (an : Option Addr) (cdv ct : Value) (us : List Value), us.length = 1 → bindArgs (PySem.W.fnOf m qual (defArgs st) (defBody st) (defScope st) .none kV doc pm an cdv ct) ⟨us, []⟩ = pure ((["self"] : List Str).zip us) := by intro _ _ _ _ _ _ us hl; match us, hl with | [_], _ => rfl) : MethT P w K mg base k C m sp := by
  obtain ⟨oc, od, an, kV, doc, pm, cdv, ct, osl, l, c⟩ := t.fn
  have F := fun_mk l c t.me.kp
  exact ⟨f, _, ok _ F, hc, t.me, F.binds hb⟩
/-- a def with keyword-only parameters that have defaults -/
structure KwF (K : PySem.W.Frag) (x : Str) (st : Stmt) (kws : List (Str × V)) (f : Addr) : Prop where
  ns : PySem.W.nsIn K mainGlobals x = some (some (.ref f))
  kp : PySem.W.keepIn K (.ref f) = true
  fn : ∃ (oc : Value) (od an : Option Addr) (D : Addr) (doc pm cdv ct : Value) (osl : Array (Option Value)), K.lookup f = some ⟨oc, od, .func (PySem.W.fnOf x x (defArgs st) (defBody st) (defScope st) .none (.ref D) doc pm an cdv ct), osl⟩ ∧ PySem.W.codeIn K cdv x = true ∧ ∀ q ∈ kws, ∃ u, PySem.W.nsIn K D q.1 = some (some u) ∧ RelV q.2 u
theorem KwF.fun_ {K : PySem.W.Frag} {x : Str} {st : Stmt} {kws : List (Str × V)} {f : Addr} (d : KwF K x st kws f) : ∃ fd, Fun K x x st f fd ∧ FunD K x x (defArgs st) (defBody st) (defScope st) [] kws f fd := by
  obtain ⟨oc, od, an, D, doc, pm, cdv, ct, osl, l, c, hq⟩ := d.fn
  exact ⟨_, fun_mk l c d.kp, ⟨⟨oc, od, .none, .ref D, doc, pm, an, cdv, ct, osl, rfl, l, c, .inl ⟨rfl, rfl⟩, .inr ⟨D, rfl, hq⟩⟩, d.kp⟩⟩
/-- a class of the program without a KIND -/
structure CdF (K : PySem.W.Frag) (x : Str) (C fI : Addr) (attrs : List Str) : Prop where
  ns : PySem.W.nsIn K mainGlobals x = some (some (.ref C))
  cl : Cls K C
  mkk : Mk K C fI
  na : ∀ f ∈ attrs, PySem.W.findIn K (.ref C) f = some none
section
variable {P : Program} {w : World} {K : PySem.W.Frag} {mg : Str → Option Value} {base : Heap}
theorem MetF.metA {C : Addr} {m qual : Str} {st : Stmt} {f : Addr} {ps : List Str} {k : Nat} {sp : Sp} (t : MetF K C m qual st f) (hc : Cls K C)
    (hb : ∀ (kV doc pm : Value) (an : Option Addr) (cdv ct : Value) (us : List Value), us.length = ps.length → bindArgs (PySem.W.fnOf m qual (defArgs st) (defBody st) (defScope st) .none kV doc pm an cdv ct) ⟨us, []⟩ = pure (ps.zip us))
    (ok : ∀ fd, Fun K m qual st f fd → FnOk P w K mg base CX0 k f fd ps sp) : MetA P w K mg base k C m ps sp := by
  obtain ⟨oc, od, an, kV, doc, pm, cdv, ct, osl, l, c⟩ := t.fn
  have F := fun_mk l c t.me.kp
  exact ⟨f, _, ok _ F, hc, t.me, F.binds hb⟩
theorem maks0 {h : Heap} {x qual : Str} {st : Stmt} {C f : Addr} {ps : List Str} {n k : Nat} {sp : Sp} (X : K.In h) (G : h.Ns mainGlobals mg) (ns : PySem.W.nsIn K mainGlobals x = some (some (.ref C))) (mk : Mk K C f) (t : MetF K C "__init__" qual st f) (hn : ps.length = n)
    (hb : ∀ (kV doc pm : Value) (an : Option Addr) (cdv ct : Value) (us : List Value), us.length = ps.length → bindArgs (PySem.W.fnOf "__init__" qual (defArgs st) (defBody st) (defScope st) .none kV doc pm an cdv ct) ⟨us, []⟩ = pure (ps.zip us))
    (ok : ∀ fd, Fun K "__init__" qual st f fd → FnOk P w K mg base CX0 k f fd ps sp) : MakS P w K mg base k x C [] (fun vs zs H Q => vs.length = n ∧ ∀ E, sp (vs ++ zs) H Q E) := by
  obtain ⟨oc, od, an, kV, doc, pm, cdv, ct, osl, l, c⟩ := t.fn
  have F := fun_mk l c t.me.kp
  have B : Binds K _ ps [] := F.binds hb
  refine ⟨f, mk, fnS_of (ok _ F) ⟨fun s us ws hk h1 h2 => ?_, fun r1 r2 => r1.append r2⟩, PySem.W.mg_of X G ns⟩
  cases ws with
  | cons w ws => cases h2
  | nil => exact B s us hk (by simp [h1, hn])
end
structure XF (K : PySem.W.Frag) (x qual : Str) (C fI : Addr) (st : Stmt) (fld : Str) : Prop where
  ns : PySem.W.nsIn K mainGlobals x = some (some (.ref C))
  g : ExG K C fI
  ty : PySem.W.typeIn K (.ref C) = some (.type "type")
  no : PySem.W.findIn K (.ref C) fld = some none
  fn : ∃ (oc : Value) (od an : Option Addr) (kV doc pm cdv ct : Value) (osl : Array (Option Value)), K.lookup fI = some ⟨oc, od, .func (PySem.W.fnOf "__init__" qual (defArgs st) (defBody st) (defScope st) .none kV doc pm an cdv ct), osl⟩ ∧ PySem.W.codeIn K cdv qual = true
  kp : PySem.W.keepIn K (.ref fI) = true
/-- a def whose code object is told -/
structure DefC (K : PySem.W.Frag) (x : Str) (st : Stmt) (f cA : Addr) : Prop where
  ns : PySem.W.nsIn K mainGlobals x = some (some (.ref f))
  fn : ∃ (oc : Value) (od an : Option Addr) (kV doc pm ct : Value) (osl : Array (Option Value)), K.lookup f = some ⟨oc, od, .func (PySem.W.fnOf x x (defArgs st) (defBody st) (defScope st) .none kV doc pm an (.ref cA) ct), osl⟩ ∧ PySem.W.codeIn K (.ref cA) x = true
  kp : PySem.W.keepIn K (.ref f) = true
theorem DefC.fun_ {K : PySem.W.Frag} {x : Str} {st : Stmt} {f cA : Addr} (d : DefC K x st f cA) : ∃ fd, FunC K x x st f fd cA := by
  obtain ⟨oc, od, an, kV, doc, pm, ct, osl, l, c⟩ := d.fn
  exact ⟨_, ⟨oc, od, kV, doc, pm, an, ct, osl, rfl, l, c⟩, d.kp⟩
section
variable {P : Program} {w : World} {K : PySem.W.Frag} {mg : Str → Option Value} {base : Heap}
theorem calx_mk {h : Heap} {x : Str} {st : Stmt} {f : Addr} {ps : List Str} {k : Nat} {sp : Sp} (X : K.In h) (G : h.Ns mainGlobals mg) (d : DefF K x st f)
    (hb : ∀ (kV doc pm : Value) (an : Option Addr) (cdv ct : Value) (us : List Value), us.length = ps.length → bindArgs (PySem.W.fnOf x x (defArgs st) (defBody st) (defScope st) .none kV doc pm an cdv ct) ⟨us, []⟩ = pure (ps.zip us))
    (ok : ∀ fd, Fun K x x st f fd → FnOk P w K mg base (L2.CX P w) k f fd ps sp) : CalX P w K mg base k x sp := by
  obtain ⟨fd, F⟩ := d.fun_
  exact ⟨f, fd, ps, ok fd F, PySem.W.mg_of X G d.ns, d.kp, F.binds hb⟩
theorem raiA_mk {h : Heap} {x qual fld : Str} {C fI : Addr} {st : Stmt} {ps : List Str} {R : List V → List (Str × V) → Prop} (X : K.In h) (G : h.Ns mainGlobals mg) (d : XF K x qual C fI st fld)
    (hb : ∀ (kV doc pm : Value) (an : Option Addr) (cdv ct : Value) (us : List Value), us.length = ps.length → bindArgs (PySem.W.fnOf "__init__" qual (defArgs st) (defBody st) (defScope st) .none kV doc pm an cdv ct) ⟨us, []⟩ = pure (ps.zip us))
    (ok : ∀ fd, Fun K "__init__" qual st fI fd → FnOk P w K mg base CX0 3 fI fd ps (fun vs H Q E => ∃ vs0 fs, R vs0 fs ∧ spIA C vs0 fs vs H Q E)) : RaiA P w K mg base x C R := by
  obtain ⟨oc, od, an, kV, doc, pm, cdv, ct, osl, l, c⟩ := d.fn
  have F := fun_mk l c d.kp
  exact ⟨fI, _, ps, d.g, d.ty, ok _ F, F.binds hb, PySem.W.mg_of X G d.ns⟩
theorem copF {f : Addr} {fd : FuncData} {ps : List Str} : FnOk P w K mg base CX0 0 f fd ps (fun _ _ _ _ => False) :=
  ⟨fun _ _ _ _ h => h.elim, fun _ _ _ _ _ _ _ _ _ _ _ _ _ h => h.elim⟩
end
section
variable {P : Program} {w : World} {K : PySem.W.Frag} {mg : Str → Option Value} {base : Heap}
theorem all_mk {l : PySem.W.OpenLaw} {w : World} {K : PySem.W.Frag} {h : Heap} {mg : Str → Option Value} {fa f_law f_is_integer f_is_integer_within f_is_row_of_bytes f_blob f_is_name f__law_source f__law_draw f_check_name f_is_data f_check_data f_is_size f_is_mode f_is_time f_check_mode_and_time f_is_piece f_are_spans f_are_pieces f_check_pieces f_target_of f_paths_above f_directory_of f_is_path f_kind_at f_filled f_thing_of f_refusal f_copied f_unpack f_unpacked f__law_told f__law_name f__law_is_path aM aF aS aD aY aL fIF fIS fID fIY fIL aNP aMD aHs iHouse aTr iTree mHouse_entries mF_content mS_content mTree_house mTree_refusal_at mTree_put aRef iRef cA PA : Addr} {t_MOST_CHARACTERS t_NAME_CHARACTERS t_MOST_BYTES t_LAST_MODE t_LAST_TIME t_MOST_PIECES : Tok} (X : K.In h) (G : h.Ns mainGlobals mg) (hfa : mg "law" = some (.ref fa))
    (d_law : DefC K "law" s_law f_law cA)
    (d_is_integer : DefF K "is_integer" s_is_integer f_is_integer)
    (d_is_integer_within : DefF K "is_integer_within" s_is_integer_within f_is_integer_within)
    (d_is_row_of_bytes : DefF K "is_row_of_bytes" s_is_row_of_bytes f_is_row_of_bytes)
    (d_blob : DefF K "blob" s_blob f_blob)
    (d_is_name : DefF K "is_name" s_is_name f_is_name)
    (d__law_source : DefF K "_law_source" s__law_source f__law_source)
    (d__law_draw : DefF K "_law_draw" s__law_draw f__law_draw)
    (d_check_name : DefF K "check_name" s_check_name f_check_name)
    (d_is_data : DefF K "is_data" s_is_data f_is_data)
    (d_check_data : DefF K "check_data" s_check_data f_check_data)
    (d_is_size : DefF K "is_size" s_is_size f_is_size)
    (d_is_mode : DefF K "is_mode" s_is_mode f_is_mode)
    (d_is_time : DefF K "is_time" s_is_time f_is_time)
    (d_check_mode_and_time : DefF K "check_mode_and_time" s_check_mode_and_time f_check_mode_and_time)
    (d_is_piece : DefF K "is_piece" s_is_piece f_is_piece)
    (d_are_spans : DefF K "are_spans" s_are_spans f_are_spans)
    (d_are_pieces : DefF K "are_pieces" s_are_pieces f_are_pieces)
    (d_check_pieces : DefF K "check_pieces" s_check_pieces f_check_pieces)
    (d_target_of : DefF K "target_of" s_target_of f_target_of)
    (d_paths_above : DefF K "paths_above" s_paths_above f_paths_above)
    (d_directory_of : DefF K "directory_of" s_directory_of f_directory_of)
    (d_is_path : DefF K "is_path" s_is_path f_is_path)
    (d_kind_at : DefF K "kind_at" s_kind_at f_kind_at)
    (d_filled : DefF K "filled" s_filled f_filled)
    (d_thing_of : DefF K "thing_of" s_thing_of f_thing_of)
    (d_refusal : DefF K "refusal" s_refusal f_refusal)
    (d_copied : DefF K "copied" s_copied f_copied)
    (d_unpack : DefF K "unpack" s_unpack f_unpack)
    (d_unpacked : DefF K "unpacked" s_unpacked f_unpacked)
    (d__law_told : DefF K "_law_told" s__law_told f__law_told)
    (d__law_name : DefF K "_law_name" s__law_name f__law_name)
    (d__law_is_path : DefF K "_law_is_path" s__law_is_path f__law_is_path)
    (n_MOST_CHARACTERS : PySem.W.nsIn K mainGlobals "MOST_CHARACTERS" = some (some (.int 250 t_MOST_CHARACTERS)))
    (n_NAME_CHARACTERS : PySem.W.nsIn K mainGlobals "NAME_CHARACTERS" = some (some (.str NC t_NAME_CHARACTERS)))
    (n_MOST_BYTES : PySem.W.nsIn K mainGlobals "MOST_BYTES" = some (some (.int 4096 t_MOST_BYTES)))
    (n_LAST_MODE : PySem.W.nsIn K mainGlobals "LAST_MODE" = some (some (.int 4095 t_LAST_MODE)))
    (n_LAST_TIME : PySem.W.nsIn K mainGlobals "LAST_TIME" = some (some (.int 8589934591 t_LAST_TIME)))
    (n_MOST_PIECES : PySem.W.nsIn K mainGlobals "MOST_PIECES" = some (some (.int 50 t_MOST_PIECES)))
    (n_NO_PARTS : PySem.W.nsIn K mainGlobals "NO_PARTS" = some (some (.ref aNP)))
    (n_MADE : PySem.W.nsIn K mainGlobals "MADE" = some (some (.ref aMD)))
    (n_Member : PySem.W.nsIn K mainGlobals "Member" = some (some (.ref aM)))
    (hF : ClsF K "File" "file" aF aM fIF ["name", "mode", "time", "data"])
    (iF : IniF K "File.__init__" s_File___init__ 420 fIF)
    (hS : ClsF K "Sparse" "sparse" aS aM fIS ["name", "mode", "time", "size", "pieces"])
    (iS : IniF K "Sparse.__init__" s_Sparse___init__ 420 fIS)
    (hD : ClsF K "Directory" "directory" aD aM fID ["name", "mode", "time"])
    (iD : IniF K "Directory.__init__" s_Directory___init__ 493 fID)
    (hY : ClsF K "Symlink" "symlink" aY aM fIY ["name", "mode", "time", "target"])
    (iY : IniF K "Symlink.__init__" s_Symlink___init__ 511 fIY)
    (hL : ClsF K "Link" "link" aL aM fIL ["name", "mode", "time", "target"])
    (iL : IniF K "Link.__init__" s_Link___init__ 420 fIL)
    (kFF : PySem.W.kitOne K (.ref aF) (.ref aF) = some true)
    (kFS : PySem.W.kitOne K (.ref aF) (.ref aS) = some false)
    (kFY : PySem.W.kitOne K (.ref aF) (.ref aY) = some false)
    (kFL : PySem.W.kitOne K (.ref aF) (.ref aL) = some false)
    (kSF : PySem.W.kitOne K (.ref aS) (.ref aF) = some false)
    (kSS : PySem.W.kitOne K (.ref aS) (.ref aS) = some true)
    (kSY : PySem.W.kitOne K (.ref aS) (.ref aY) = some false)
    (kSL : PySem.W.kitOne K (.ref aS) (.ref aL) = some false)
    (kDF : PySem.W.kitOne K (.ref aD) (.ref aF) = some false)
    (kDS : PySem.W.kitOne K (.ref aD) (.ref aS) = some false)
    (kDY : PySem.W.kitOne K (.ref aD) (.ref aY) = some false)
    (kDL : PySem.W.kitOne K (.ref aD) (.ref aL) = some false)
    (kYF : PySem.W.kitOne K (.ref aY) (.ref aF) = some false)
    (kYS : PySem.W.kitOne K (.ref aY) (.ref aS) = some false)
    (kYY : PySem.W.kitOne K (.ref aY) (.ref aY) = some true)
    (kLF : PySem.W.kitOne K (.ref aL) (.ref aF) = some false)
    (kLS : PySem.W.kitOne K (.ref aL) (.ref aS) = some false)
    (kLY : PySem.W.kitOne K (.ref aL) (.ref aY) = some false)
    (kLL : PySem.W.kitOne K (.ref aL) (.ref aL) = some true)
    (npH : ∀ H, SqT K H aNP [.str "", .str ".", .str ".."])
    (mdH : ∀ H, SqT K H aMD [.str "directory", .int 493, .int 0])
    (kDD : PySem.W.kitOne K (.ref aD) (.ref aD) = some true)
    (kFD : PySem.W.kitOne K (.ref aF) (.ref aD) = some false)
    (kSD : PySem.W.kitOne K (.ref aS) (.ref aD) = some false)
    (kYD : PySem.W.kitOne K (.ref aY) (.ref aD) = some false)
    (kLD : PySem.W.kitOne K (.ref aL) (.ref aD) = some false)
    (kYL : PySem.W.kitOne K (.ref aY) (.ref aL) = some false)
    (hHouse : CdF K "House" aHs iHouse ["rows", "things", "firsts"])
    (tHouse___init__ : MetF K aHs "__init__" "House.__init__" s_House___init__ iHouse)
    (hTree : CdF K "Tree" aTr iTree ["things", "marks", "many"])
    (tTree___init__ : MetF K aTr "__init__" "Tree.__init__" s_Tree___init__ iTree)
    (tHouse_entries : MetF K aHs "entries" "House.entries" s_House_entries mHouse_entries)
    (tF_content : MetF K aF "content" "File.content" s_File_content mF_content)
    (tS_content : MetF K aS "content" "Sparse.content" s_Sparse_content mS_content)
    (tTree_house : MetF K aTr "house" "Tree.house" s_Tree_house mTree_house)
    (tTree_refusal_at : MetF K aTr "refusal_at" "Tree.refusal_at" s_Tree_refusal_at mTree_refusal_at)
    (tTree_put : MetF K aTr "put" "Tree.put" s_Tree_put mTree_put)
    (x_Refused : XF K "Refused" "Refused.__init__" aRef iRef s_Refused___init__ "index")
    (nW2 : PySem.W.findIn K (.ref aRef) "word" = some none)
    (eRR : PySem.W.exmOne K (.ref aRef) (.ref aRef) = some true)
    (z : ∀ b ∈ (["isinstance", "bool", "int", "list", "tuple", "all", "bytes", "str", "len", "abs", "range", "any", "sorted", "dict", "enumerate", "max", "min"] : List Str), PySem.W.nsIn K mainGlobals b = some none) :
    ∃ fd : FuncData, (∀ (s : Shared) (v : Value), BindsTo s fd ⟨[v], []⟩ [("_law_script", v)]) ∧ ∀ base : Heap, K.In base → base.Ns mainGlobals mg → TabB base mg cA PA → FnG l.prog w K mg base 18 fa fd ["_law_script"] (spLawT K [(PA, ("law" : Str) ++ ".<locals>.<lambda>")]) := by
  have e := hfa.symm.trans (PySem.W.mg_of X G d_law.ns)
  cases e
  have bs : ∀ b ∈ (["isinstance", "bool", "int", "list", "tuple", "all", "bytes", "str", "len", "abs", "range", "any", "sorted", "dict", "enumerate", "max", "min"] : List Str), mg b = none := fun b hb => PySem.W.mg_none_of X G (z b hb)
  have b_isinstance : mg "isinstance" = none := bs _ (by simp)
  have b_bool : mg "bool" = none := bs _ (by simp)
  have b_int : mg "int" = none := bs _ (by simp)
  have b_list : mg "list" = none := bs _ (by simp)
  have b_tuple : mg "tuple" = none := bs _ (by simp)
  have b_all : mg "all" = none := bs _ (by simp)
  have b_bytes : mg "bytes" = none := bs _ (by simp)
  have b_str : mg "str" = none := bs _ (by simp)
  have b_len : mg "len" = none := bs _ (by simp)
  have b_abs : mg "abs" = none := bs _ (by simp)
  have b_range : mg "range" = none := bs _ (by simp)
  have b_any : mg "any" = none := bs _ (by simp)
  have b_sorted : mg "sorted" = none := bs _ (by simp)
  have b_dict : mg "dict" = none := bs _ (by simp)
  have b_enumerate : mg "enumerate" = none := bs _ (by simp)
  have b_max : mg "max" = none := bs _ (by simp)
  have b_min : mg "min" = none := bs _ (by simp)
  have g_MOST_CHARACTERS := PySem.W.mg_of X G n_MOST_CHARACTERS
  have g_NAME_CHARACTERS := PySem.W.mg_of X G n_NAME_CHARACTERS
  have g_MOST_BYTES := PySem.W.mg_of X G n_MOST_BYTES
  have g_LAST_MODE := PySem.W.mg_of X G n_LAST_MODE
  have g_LAST_TIME := PySem.W.mg_of X G n_LAST_TIME
  have g_MOST_PIECES := PySem.W.mg_of X G n_MOST_PIECES
  have g_NO_PARTS := PySem.W.mg_of X G n_NO_PARTS
  have g_MADE := PySem.W.mg_of X G n_MADE
  have MM : MF K ⟨aF, aS, aD, aY, aL⟩ aM := ⟨⟨kFF, kFS, kFY, kFL, kSF, kSS, kSY, kSL, kDF, kDS, kDY, kDL, kYF, kYS, kYY, kLF, kLS, kLY, kLL⟩, hF.cf, hS.cf, hD.cf, hY.cf, hL.cf, hF.na _ (by simp), hS.na _ (by simp), hS.na _ (by simp), hY.na _ (by simp), hL.na _ (by simp)⟩
  obtain ⟨fd, F⟩ := d_law.fun_
  refine ⟨fd, ?_, ?_⟩
  · obtain ⟨oc, od, kV, doc, pm, an, ct, osl, rfl, lk, hcd⟩ := F.ex
    intro s v
    exact .of_eq rfl
  · intro base Xb Gb TB
    let T : List (Addr × Str) := [(PA, ("law" : Str) ++ ".<locals>.<lambda>")]
    have one_ : ∀ p ∈ T, p.1 = PA → p.2 = ("law" : Str) ++ ".<locals>.<lambda>" := fun p hp _ => by
      rw [List.mem_singleton] at hp
      rw [hp]
    have c_is_integer : CalT l.prog w K mg base 1 "is_integer" spIsI := cal_mk Xb Gb d_is_integer (ps := ["thing"]) (fun _ _ _ _ _ _ us hl => match us, hl with | [_], _ => rfl) fun fd F => ok_isI F b_isinstance b_bool b_int
    have c_is_integer_within : CalT l.prog w K mg base 2 "is_integer_within" spWithin := cal_mk Xb Gb d_is_integer_within (ps := ["thing", "least", "most"]) (fun _ _ _ _ _ _ us hl => match us, hl with | [_, _, _], _ => rfl) fun fd F => ok_within F c_is_integer
    have c_is_row_of_bytes : CalT l.prog w K mg base 3 "is_row_of_bytes" spRow := cal_mk Xb Gb d_is_row_of_bytes (ps := ["thing"]) (fun _ _ _ _ _ _ us hl => match us, hl with | [_], _ => rfl) fun fd F => ok_row F c_is_integer_within b_isinstance b_list b_tuple b_all
    have c_blob : CalT l.prog w K mg base 4 "blob" spBlob := cal_mk Xb Gb d_blob (ps := ["numbers"]) (fun _ _ _ _ _ _ us hl => match us, hl with | [_], _ => rfl) fun fd F => ok_blob F c_is_row_of_bytes b_bytes
    have c_is_name : CalT l.prog w K mg base 2 "is_name" (spName K) := cal_mk Xb Gb d_is_name (ps := ["thing"]) (fun _ _ _ _ _ _ us hl => match us, hl with | [_], _ => rfl) fun fd F => ok_name F b_isinstance b_str b_len b_all g_MOST_CHARACTERS g_NAME_CHARACTERS
    have c__law_source : CalT l.prog w K mg base 2 "_law_source" (spSource K) := cal_mk Xb Gb d__law_source (ps := ["_law_script", "_law_at"]) (fun _ _ _ _ _ _ us hl => match us, hl with | [_, _], _ => rfl) fun fd F => ok_source F b_len b_int b_abs
    have c__law_draw : CalT l.prog w K mg base 2 "_law_draw" spDraw := cal_mk Xb Gb d__law_draw (ps := ["_law_source_here", "_law_many"]) (fun _ _ _ _ _ _ us hl => match us, hl with | [_, _], _ => rfl) fun fd F => ok_draw F b_int
    have c_check_name : CalT l.prog w K mg base 3 "check_name" spCName := cal_mk Xb Gb d_check_name (ps := ["thing"]) (fun _ _ _ _ _ _ us hl => match us, hl with | [_], _ => rfl) fun fd F => ok_cname F c_is_name
    have c_is_data : CalT l.prog w K mg base 2 "is_data" spIsData := cal_mk Xb Gb d_is_data (ps := ["thing"]) (fun _ _ _ _ _ _ us hl => match us, hl with | [_], _ => rfl) fun fd F => ok_isdata F b_isinstance b_bytes b_len g_MOST_BYTES
    have c_check_data : CalT l.prog w K mg base 3 "check_data" spCData := cal_mk Xb Gb d_check_data (ps := ["thing"]) (fun _ _ _ _ _ _ us hl => match us, hl with | [_], _ => rfl) fun fd F => ok_cdata F c_is_data
    have c_is_size : CalT l.prog w K mg base 3 "is_size" (spIn 0 4096) := cal_mk Xb Gb d_is_size (ps := ["thing"]) (fun _ _ _ _ _ _ us hl => match us, hl with | [_], _ => rfl) fun fd F => ok_issize F g_MOST_BYTES c_is_integer_within
    have c_is_mode : CalT l.prog w K mg base 3 "is_mode" (spIn 0 4095) := cal_mk Xb Gb d_is_mode (ps := ["thing"]) (fun _ _ _ _ _ _ us hl => match us, hl with | [_], _ => rfl) fun fd F => ok_ismode F g_LAST_MODE c_is_integer_within
    have c_is_time : CalT l.prog w K mg base 3 "is_time" (spIn 0 8589934591) := cal_mk Xb Gb d_is_time (ps := ["thing"]) (fun _ _ _ _ _ _ us hl => match us, hl with | [_], _ => rfl) fun fd F => ok_istime F g_LAST_TIME c_is_integer_within
    have c_check_mode_and_time : CalT l.prog w K mg base 4 "check_mode_and_time" spStamp := cal_mk Xb Gb d_check_mode_and_time (ps := ["mode", "time"]) (fun _ _ _ _ _ _ us hl => match us, hl with | [_, _], _ => rfl) fun fd F => ok_stamp F c_is_mode c_is_time
    have c_is_piece : CalT l.prog w K mg base 3 "is_piece" spPiece := cal_mk Xb Gb d_is_piece (ps := ["thing"]) (fun _ _ _ _ _ _ us hl => match us, hl with | [_], _ => rfl) fun fd F => ok_piece F b_isinstance b_tuple b_len b_bytes g_MOST_BYTES c_is_integer_within
    have c_are_spans : CalT l.prog w K mg base 2 "are_spans" spASpans := cal_mk Xb Gb d_are_spans (ps := ["size", "spans"]) (fun _ _ _ _ _ _ us hl => match us, hl with | [_, _], _ => rfl) fun fd F => ok_aspans F b_len g_MOST_PIECES
    have c_are_pieces : CalT l.prog w K mg base 4 "are_pieces" spAPieces := cal_mk Xb Gb d_are_pieces (ps := ["size", "pieces"]) (fun _ _ _ _ _ _ us hl => match us, hl with | [_, _], _ => rfl) fun fd F => ok_apieces F b_len b_all c_is_piece c_are_spans
    have c_check_pieces : CalT l.prog w K mg base 5 "check_pieces" spCPieces := cal_mk Xb Gb d_check_pieces (ps := ["size", "pieces"]) (fun _ _ _ _ _ _ us hl => match us, hl with | [_, _], _ => rfl) fun fd F => ok_cpieces F c_is_size c_are_pieces
    have mkF_D : MakS l.prog w K mg base 5 "File" aF [] (fun vs zs H Q => zs = [] ∧ ∀ E, spFileI aF (vs ++ [.int 420, .int 0]) H Q E) := by
      obtain ⟨fd, F⟩ := iF.fun_
      obtain ⟨ds, hd, hb⟩ := F.binds0 (ps := ["self", "name", "data", "mode", "time"]) 3 (by simp) rfl (fun D doc pm an cdv ct us ks h1 h2 => match us, ks, h1, h2 with | [_, _, _], [_, _], _, _ => ⟨_, _, _, _, _, _, rfl, rfl, _, _, _, _, _, _, rfl, rfl, rfl⟩)
      exact ⟨fIF, hF.mkk, fnS_dfl (ok_fileI F hF.cl (hF.na "name" (by simp)) (hF.na "data" (by simp)) (hF.na "mode" (by simp)) (hF.na "time" (by simp)) c_check_name c_check_data c_check_mode_and_time) hb hd, PySem.W.mg_of X G hF.ns⟩
    have mkS_D : MakS l.prog w K mg base 6 "Sparse" aS [] (fun vs zs H Q => zs = [] ∧ spSpa aS 420 0 vs H Q) := by
      obtain ⟨fd, F⟩ := iS.fun_
      exact ⟨fIS, hS.mkk, ok_spaD F hS.cl (hS.na "name" (by simp)) (hS.na "size" (by simp)) (hS.na "mode" (by simp)) (hS.na "time" (by simp)) (hS.na "pieces" (by simp)) c_check_name c_check_pieces c_check_mode_and_time, PySem.W.mg_of X G hS.ns⟩
    have mkD_D : MakS l.prog w K mg base 5 "Directory" aD [] (fun vs zs H Q => zs = [] ∧ ∀ E, spDirI aD (vs ++ [.int 493, .int 0]) H Q E) := by
      obtain ⟨fd, F⟩ := iD.fun_
      obtain ⟨ds, hd, hb⟩ := F.binds0 (ps := ["self", "name", "mode", "time"]) 2 (by simp) rfl (fun D doc pm an cdv ct us ks h1 h2 => match us, ks, h1, h2 with | [_, _], [_, _], _, _ => ⟨_, _, _, _, _, _, rfl, rfl, _, _, _, _, _, _, rfl, rfl, rfl⟩)
      exact ⟨fID, hD.mkk, fnS_dfl (ok_dirI F hD.cl (hD.na "name" (by simp)) (hD.na "mode" (by simp)) (hD.na "time" (by simp)) c_check_name c_check_mode_and_time) hb hd, PySem.W.mg_of X G hD.ns⟩
    have mkY_D : MakS l.prog w K mg base 5 "Symlink" aY [] (fun vs zs H Q => zs = [] ∧ ∀ E, spSymI aY (vs ++ [.int 511, .int 0]) H Q E) := by
      obtain ⟨fd, F⟩ := iY.fun_
      obtain ⟨ds, hd, hb⟩ := F.binds0 (ps := ["self", "name", "target", "mode", "time"]) 3 (by simp) rfl (fun D doc pm an cdv ct us ks h1 h2 => match us, ks, h1, h2 with | [_, _, _], [_, _], _, _ => ⟨_, _, _, _, _, _, rfl, rfl, _, _, _, _, _, _, rfl, rfl, rfl⟩)
      exact ⟨fIY, hY.mkk, fnS_dfl (ok_symI F hY.cl (hY.na "name" (by simp)) (hY.na "target" (by simp)) (hY.na "mode" (by simp)) (hY.na "time" (by simp)) c_check_name c_check_mode_and_time) hb hd, PySem.W.mg_of X G hY.ns⟩
    have mkL_D : MakS l.prog w K mg base 5 "Link" aL [] (fun vs zs H Q => zs = [] ∧ ∀ E, spSymI aL (vs ++ [.int 420, .int 0]) H Q E) := by
      obtain ⟨fd, F⟩ := iL.fun_
      obtain ⟨ds, hd, hb⟩ := F.binds0 (ps := ["self", "name", "target", "mode", "time"]) 3 (by simp) rfl (fun D doc pm an cdv ct us ks h1 h2 => match us, ks, h1, h2 with | [_, _, _], [_, _], _, _ => ⟨_, _, _, _, _, _, rfl, rfl, _, _, _, _, _, _, rfl, rfl, rfl⟩)
      exact ⟨fIL, hL.mkk, fnS_dfl (ok_lnkI F hL.cl (hL.na "name" (by simp)) (hL.na "target" (by simp)) (hL.na "mode" (by simp)) (hL.na "time" (by simp)) c_check_name c_check_mode_and_time) hb hd, PySem.W.mg_of X G hL.ns⟩
    have c_target_of : CalT l.prog w K mg base 2 "target_of" (spTarget ⟨aF, aS, aD, aY, aL⟩) := cal_mk Xb Gb d_target_of (ps := ["member"]) (fun _ _ _ _ _ _ us hl => match us, hl with | [_], _ => rfl) fun fd F => ok_target (c := ⟨aF, aS, aD, aY, aL⟩) F b_isinstance MM (PySem.W.mg_of X G hY.ns) (PySem.W.mg_of X G hL.ns)
    have c_paths_above : CalT l.prog w K mg base 2 "paths_above" spAbove := cal_mk Xb Gb d_paths_above (ps := ["path"]) (fun _ _ _ _ _ _ us hl => match us, hl with | [_], _ => rfl) fun fd F => ok_above F b_range b_len
    have c_directory_of : CalT l.prog w K mg base 2 "directory_of" spDirOf := cal_mk Xb Gb d_directory_of (ps := ["path"]) (fun _ _ _ _ _ _ us hl => match us, hl with | [_], _ => rfl) fun fd F => ok_dirof F 
    have c_is_path : CalT l.prog w K mg base 3 "is_path" spIsPath := cal_mk Xb Gb d_is_path (ps := ["thing"]) (fun _ _ _ _ _ _ us hl => match us, hl with | [_], _ => rfl) fun fd F => ok_ispath F b_any g_NO_PARTS npH c_is_name
    have c_kind_at : CalT l.prog w K mg base 2 "kind_at" (spKindAt K) := cal_mk Xb Gb d_kind_at (ps := ["path", "things"]) (fun _ _ _ _ _ _ us hl => match us, hl with | [_, _], _ => rfl) fun fd F => ok_kindat F 
    have hHsC : HsC K aHs := ⟨hHouse.cl, hHouse.na "rows" (by simp), hHouse.na "things" (by simp), hHouse.na "firsts" (by simp)⟩
    have hTrC : TrC K aTr := ⟨hTree.cl, hTree.na "things" (by simp), hTree.na "marks" (by simp), hTree.na "many" (by simp)⟩
    have mk0_House : Mk0T l.prog w K mg base 2 "House" aHs (spHInit aHs) := by
      obtain ⟨oc, od, an, kV, doc, pm, cdv, ct, osl, l, c⟩ := tHouse___init__.fn
      exact ⟨iHouse, _, hHouse.mkk, (fun F => ok_hinit F hHsC) (fun_mk l c tHouse___init__.me.kp), (fun_mk l c tHouse___init__.me.kp).binds (by intro _ _ _ _ _ _ us hl; match us, hl with | [_], _ => rfl), PySem.W.mg_of X G hHouse.ns⟩
    have mA_entries : MetA l.prog w K mg base 2 aHs "entries" ["self"] (spHEnts aHs K) := tHouse_entries.metA hHouse.cl (fun _ _ _ _ _ _ us hl => match us, hl with | [_], _ => rfl) fun fd F => ok_hents F hHsC b_list
    have c_filled : CalT l.prog w K mg base 2 "filled" (spFilled K aHs) := cal_mk Xb Gb d_filled (ps := ["house", "things", "marks"]) (fun _ _ _ _ _ _ us hl => match us, hl with | [_, _, _], _ => rfl) fun fd F => ok_filled F hHsC b_sorted b_tuple
    have mC_F : MethT l.prog w K mg base 2 aF "content" (spContF aF) := tF_content.meth hF.cl fun fd F => ok_contF F hF.cl (hF.na "data" (by simp))
    have mC_S : MethT l.prog w K mg base 2 aS "content" (spContS aS) := tS_content.meth hS.cl fun fd F => ok_contS F hS.cl (hS.na "size" (by simp)) (hS.na "pieces" (by simp)) b_bytes b_len
    have c_thing_of : CalT l.prog w K mg base 3 "thing_of" (spThingOf K ⟨aF, aS, aD, aY, aL⟩) := cal_mk Xb Gb d_thing_of (ps := ["member"]) (fun _ _ _ _ _ _ us hl => match us, hl with | [_], _ => rfl) fun fd F => ok_thingof (c := ⟨aF, aS, aD, aY, aL⟩) F b_isinstance MM ⟨kDD, kFD, kSD, kYD, kLD, kYL⟩ (PySem.W.mg_of X G hD.ns) (PySem.W.mg_of X G hF.ns) (PySem.W.mg_of X G hS.ns) (PySem.W.mg_of X G hY.ns) mC_F mC_S
    have mk_Tree : MakS l.prog w K mg base 2 "Tree" aTr [] (fun vs zs H Q => vs.length = 2 ∧ ∀ E, (spTInit K aTr aHs) (vs ++ zs) H Q E) := maks0 X G hTree.ns hTree.mkk tTree___init__ (ps := ["self", "house"]) (n := 2) rfl (fun _ _ _ _ _ _ us hl => match us, hl with | [_, _], _ => rfl) fun fd F => ok_tinit F hTrC hHsC
    have mA_house : MetA l.prog w K mg base 4 aTr "house" ["self"] (spTHouse K aTr aHs) := tTree_house.metA hTree.cl (fun _ _ _ _ _ _ us hl => match us, hl with | [_], _ => rfl) fun fd F => ok_thouse F hTrC c_filled mk0_House
    have mA_refusal_at : MetA l.prog w K mg base 3 aTr "refusal_at" ["self", "path", "member", "target"] (spRefAt K aTr ⟨aF, aS, aD, aY, aL⟩) := tTree_refusal_at.metA hTree.cl (fun _ _ _ _ _ _ us hl => match us, hl with | [_, _, _, _], _ => rfl) fun fd F => ok_refat (c := ⟨aF, aS, aD, aY, aL⟩) F hTrC b_isinstance MM ⟨kDD, kFD, kSD, kYD, kLD, kYL⟩ (PySem.W.mg_of X G hD.ns) (PySem.W.mg_of X G hL.ns) c_kind_at
    have mA_put : MetA l.prog w K mg base 4 aTr "put" ["self", "path", "member", "target"] (spPut K aTr ⟨aF, aS, aD, aY, aL⟩) := tTree_put.metA hTree.cl (fun _ _ _ _ _ _ us hl => match us, hl with | [_, _, _, _], _ => rfl) fun fd F => ok_put (c := ⟨aF, aS, aD, aY, aL⟩) F hTrC b_isinstance MM ⟨kDD, kFD, kSD, kYD, kLD, kYL⟩ (PySem.W.mg_of X G hL.ns) g_MADE mdH c_paths_above c_thing_of
    have c_refusal : CalT l.prog w K mg base 4 "refusal" (spRefG K aTr ⟨aF, aS, aD, aY, aL⟩) := cal_mk Xb Gb d_refusal (ps := ["tree", "member"]) (fun _ _ _ _ _ _ us hl => match us, hl with | [_, _], _ => rfl) fun fd F => ok_refG (c := ⟨aF, aS, aD, aY, aL⟩) F hTrC MM c_is_path c_paths_above c_kind_at c_target_of mA_refusal_at
    have p0 : CalT l.prog w K mg base 0 "copied" (fun _ _ _ _ => False) := cal_mk Xb Gb d_copied (ps := ["thing"]) (fun _ _ _ _ _ _ us hl => match us, hl with | [_], _ => rfl) fun fd F => copF
    have p1 : CalT l.prog w K mg base 1 "copied" spCop1 := cal_mk Xb Gb d_copied (ps := ["thing"]) (fun _ _ _ _ _ _ us hl => match us, hl with | [_], _ => rfl) fun fd F => ok_cop1 (k := 0) F b_isinstance b_list b_tuple b_dict p0
    have R_Ref : RaiA l.prog w K mg base "Refused" aRef RRef := raiA_mk Xb Gb x_Refused (ps := ["self", "index", "word"]) (fun _ _ _ _ _ _ us hl => match us, hl with | [_, _, _], _ => rfl) fun fd F => ok_iRef (k := 0) F x_Refused.g x_Refused.no nW2 p1
    have x_unpack : CalX l.prog w K mg base 5 "unpack" (spUnpackX K aTr ⟨aF, aS, aD, aY, aL⟩ aRef) := calx_mk Xb Gb d_unpack (ps := ["tree", "index", "member"]) (fun _ _ _ _ _ _ us hl => match us, hl with | [_, _, _], _ => rfl) fun fd F => ok_unpackX (c := ⟨aF, aS, aD, aY, aL⟩) F hTrC MM R_Ref c_refusal c_target_of mA_put
    have x_unpd : CalX l.prog w K mg base 6 "unpacked" (spUnpdX K aTr aHs ⟨aF, aS, aD, aY, aL⟩ aRef) := calx_mk Xb Gb d_unpacked (ps := ["house", "members"]) (fun _ _ _ _ _ _ us hl => match us, hl with | [_, _], _ => rfl) fun fd F => ok_unpdX (c := ⟨aF, aS, aD, aY, aL⟩) F b_enumerate hTrC mk_Tree x_unpack mA_house
    have e_told : CalL l.prog w K mg base 14 "_law_told" (TTtold K aHs aRef) := ok_told (k := 11) d__law_told.fn d__law_told.kp (PySem.W.mg_of Xb Gb d__law_told.ns) (PySem.W.mg_of Xb Gb x_Refused.ns) eRR x_Refused.g x_Refused.no nW2 mA_entries
    have c__law_name : CalT l.prog w K mg base 3 "_law_name" spLName := cal_mk Xb Gb d__law_name (ps := ["_law_source_here"]) (fun _ _ _ _ _ _ us hl => match us, hl with | [_], _ => rfl) fun fd F => ok_lname F b_range c__law_draw
    have c__law_is_path : CalT l.prog w K mg base 2 "_law_is_path" spLIsPath := cal_mk Xb Gb d__law_is_path (ps := ["_law_name_here"]) (fun _ _ _ _ _ _ us hl => match us, hl with | [_], _ => rfl) fun fd F => ok_lispath F b_all
    exact ok_law (T := T) (c := ⟨aF, aS, aD, aY, aL⟩) F TB (List.mem_cons_self ..) one_ b_max b_min b_len b_range b_sorted c__law_source c__law_draw c_blob c__law_name c__law_is_path e_told x_unpd mkF_D mkD_D mkL_D mk0_House
end
end Th
namespace Th
open PySem PySem.Spec PyProof.Rows L2
theorem defF_of {K : PySem.W.Frag} {x : Str} {st : Stmt} {f : Addr} (a : PySem.W.nsIn K mainGlobals x = some (some (.ref f))) (b : Hk.FnAt K x x st f ∧ PySem.W.keepIn K (.ref f) = true) : DefF K x st f := ⟨a, b.1, b.2⟩
theorem clsF_of {K : PySem.W.Frag} {x kind : Str} {C aM fI : Addr} {r : List Str} {t : Tok} (ns : PySem.W.nsIn K mainGlobals x = some (some (.ref C))) (c : Cls K C) (m : Mk K C fI)
    (k : PySem.W.findIn K (.ref C) "__class__" = some (some (.builtin "object.__class__")) ∧ PySem.W.mroIn K C (.type "object") = some true ∧ PySem.W.specialIn K (.builtin "object.__class__") "__get__" = some (some (.builtin "getset_descriptor.__get__")) ∧ PySem.W.takesIn K (.builtin "object.__class__") = some true)
    (kit : PySem.W.kitOne K (.ref C) (.ref aM) = some true) (kat : PySem.W.findIn K (.ref C) "KIND" = some (some (.str kind t))) (kget : PySem.W.specialIn K (.str kind t) "__get__" = some none) (kcl : PySem.W.findCls K (.ref C) (.type "type") "KIND" = some (.val (.str kind t)))
    (rd : Hk.readB K C = true) (na : ∀ f ∈ ("name" :: "mode" :: "time" :: r : List Str), PySem.W.findIn K (.ref C) f = some none) : ClsF K x kind C aM fI ("name" :: "mode" :: "time" :: r) := by
  obtain ⟨pg, hd, po, sa⟩ := c
  obtain ⟨mk, ini, ifn, kp⟩ := m
  obtain ⟨r1, r2⟩ := He.ba rd
  exact clsF_mk ns pg hd po sa mk ini ifn kp k.1 k.2.1 kit kat kget r1 (He.eqO_ok r2) kcl k.2.2.1 k.2.2.2 na
theorem iniF_of {K : PySem.W.Frag} {qual : Str} {st : Stmt} {b : Int} {f : Addr} (h : Hk.FnAt K "__init__" qual st f ∧ PySem.W.keepIn K (.ref f) = true) (q : Hk.kwsV K f [("mode", .int b), ("time", .int 0)] = true) : IniF K qual st b f := by
  obtain ⟨⟨oc, od, an, kV, doc, pm, cdv, ct, osl, l, cd⟩, kp⟩ := h
  obtain ⟨D, e, v⟩ := Hk.kwsV_ok q
  obtain rfl := Hk.kwAt_ok l e
  obtain ⟨t1, e1⟩ := Hk.nsI (v ("mode", .int b) (by simp))
  obtain ⟨t2, e2⟩ := Hk.nsI (v ("time", .int 0) (by simp))
  exact iniF_mk l cd kp e1 e2
theorem metF_of {K : PySem.W.Frag} {C : Addr} {m qual : Str} {st : Stmt} {f : Addr} (me : Meth K C m f) (h : Hk.FnAt K m qual st f ∧ PySem.W.keepIn K (.ref f) = true) : MetF K C m qual st f := ⟨me, h.1⟩
theorem xF_of {K : PySem.W.Frag} {x qual fld : Str} {C fI : Addr} {st : Stmt} {B newId initId B' : String} {bmA bm : List Value} (ns : PySem.W.nsIn K mainGlobals x = some (some (.ref C))) (FB : PySem.ExcBaseFacts B newId initId bmA) (SF : PySem.StoreFacts B' bm "object.__setattr__" "object")
    (t : bm.contains (.type B) = true ∧ bm.contains (.type "AttributeError") = false ∧ bm.contains (.type "NameError") = false)
    (e : PySem.W.excInitIn K C bm newId = true ∧ PySem.W.excOver K C bm = true ∧ PySem.W.findIn K (.ref C) "__setattr__" = some (some (.builtin "object.__setattr__")) ∧ PySem.W.findIn K (.ref C) "__init__" = some (some (.ref fI)) ∧
    PySem.W.typeIn K (.ref fI) = some (.type "function") ∧ PySem.W.keepIn K (.ref C) = true ∧ PySem.W.findIn K (.ref C) "__getattribute__" = some (some (.builtin "BaseException.__getattribute__")) ∧ PySem.W.findIn K (.ref C) "__getattr__" = some none ∧
    PySem.W.subIn K (.ref C) (.type "BaseException") = some true ∧ PySem.W.hasDictIn K C = true ∧ Hk.kindB K C = true ∧ PySem.W.typeIn K (.ref C) = some (.type "type"))
    (no : PySem.W.findIn K (.ref C) fld = some none) (f : Hk.FnAt K "__init__" qual st fI ∧ PySem.W.keepIn K (.ref fI) = true) : XF K x qual C fI st fld := by
  obtain ⟨a1, a2, a3, a4, a5, a6, a7, a8, a9, a10, a11, a12⟩ := e
  obtain ⟨k1, k2, k3, k4⟩ := Hk.kindB_ok a11
  exact ⟨ns, ⟨⟨B, newId, initId, bmA, B', bm, FB, SF, a1, a2, t.1, t.2.1, t.2.2⟩, a3, a4, a5, a6, a7, a8, a9, a10, k1, k3, k4, k2⟩, a12, no, f.1, f.2⟩
theorem defC_of {K : PySem.W.Frag} {x : Str} {st : Stmt} (a : PySem.W.nsIn K mainGlobals x = some (some (.ref (He.ga K x)))) (b : Hk.FnAt K x x st (He.ga K x) ∧ PySem.W.keepIn K (.ref (He.ga K x)) = true) : DefC K x st (He.ga K x) (He.codeOf K (x, none)) := by
  obtain ⟨⟨oc, od, an, kV, doc, pm, cdv, ct, osl, l, c⟩, kp⟩ := b
  obtain ⟨c0, rfl⟩ := He.codeIn_ref c
  have e : He.codeOf K (x, none) = c0 := He.codeOf_eq (p := (x, none)) l rfl
  rw [e]
  exact ⟨a, ⟨oc, od, an, kV, doc, pm, ct, osl, l, c⟩, kp⟩
theorem tabs0 {tabs : List (Addr × Addr)} {qs : List Str} {H : Hp} (ht : ∀ t ∈ tabs, H t.2 = some (.tbl #[])) : LamX.Tabs ((tabs.map (·.2)).zip qs) H := fun p hp => by
  obtain ⟨t, h1, h2⟩ := List.mem_map.mp (List.of_mem_zip hp).1
  refine ⟨#[], by rw [← h2]; exact ht t h1, trivial, fun pos cv h => by cases h⟩
end Th
namespace Hd
open PySem PySem.Spec PyProof.Rows L2
theorem facts_ {l : PySem.W.OpenLaw} {w : World} {K : PySem.W.Frag} {h : Heap} {mg : Str → Option Value} {fa_ : Addr} (X : K.In h) (G : h.Ns mainGlobals mg) (hfa : mg "law" = some (.ref fa_)) (c : ∀ x ∈ cks, x.Says w K) :
    ∃ fd : FuncData, (∀ (s : Shared) (v : Value), BindsTo s fd ⟨[v], []⟩ [("_law_script", v)]) ∧ ∀ base : Heap, K.In base → base.Ns mainGlobals mg → LamX.TabB base mg (He.cT K ("law", none)).1 (He.cT K ("law", none)).2 → Th.FnG l.prog w K mg base 18 fa_ fd ["_law_script"] (Th.spLawT K [((He.cT K ("law", none)).2, ("law" : PySem.Str) ++ ".<locals>.<lambda>")]) := by
  have f0 : Hk.SaysX fa0_ fn0_ ts w K := c ck_f0 (by simp [cks])
  have f1 : Hk.SaysX fa1_ fn1_ [] w K := c ck_f1 (by simp [cks])
  obtain ⟨_, n_MOST_CHARACTERS⟩ := Hk.nsI (f0.fact 33)
  obtain ⟨_, n_NAME_CHARACTERS⟩ := Hk.nsS (f0.fact 34)
  obtain ⟨_, n_MOST_BYTES⟩ := Hk.nsI (f0.fact 35)
  obtain ⟨_, n_LAST_MODE⟩ := Hk.nsI (f0.fact 36)
  obtain ⟨_, n_LAST_TIME⟩ := Hk.nsI (f0.fact 37)
  obtain ⟨_, n_MOST_PIECES⟩ := Hk.nsI (f0.fact 38)
  obtain ⟨_, kat_hF, kget_hF, kcl_hF⟩ := Hk.conS (f0.fact 42)
  obtain ⟨_, kat_hS, kget_hS, kcl_hS⟩ := Hk.conS (f0.fact 51)
  obtain ⟨_, kat_hD, kget_hD, kcl_hD⟩ := Hk.conS (f0.fact 60)
  obtain ⟨_, kat_hY, kget_hY, kcl_hY⟩ := Hk.conS (f1.fact 1)
  obtain ⟨_, kat_hL, kget_hL, kcl_hL⟩ := Hk.conS (f1.fact 10)
  exact Th.all_mk X G hfa
    (Th.defC_of (He.eqO_ok (f0.fact 0)) (f0.def_ 0 (d := Hd.fn_0)))
    (Th.defF_of (He.eqO_ok (f0.fact 1)) (f0.def_ 1 (d := Hd.fn_1)))
    (Th.defF_of (He.eqO_ok (f0.fact 2)) (f0.def_ 2 (d := Hd.fn_2)))
    (Th.defF_of (He.eqO_ok (f0.fact 3)) (f0.def_ 3 (d := Hd.fn_3)))
    (Th.defF_of (He.eqO_ok (f0.fact 4)) (f0.def_ 4 (d := Hd.fn_4)))
    (Th.defF_of (He.eqO_ok (f0.fact 5)) (f0.def_ 5 (d := Hd.fn_5)))
    (Th.defF_of (He.eqO_ok (f0.fact 6)) (f0.def_ 6 (d := Hd.fn_6)))
    (Th.defF_of (He.eqO_ok (f0.fact 7)) (f0.def_ 7 (d := Hd.fn_7)))
    (Th.defF_of (He.eqO_ok (f0.fact 8)) (f0.def_ 8 (d := Hd.fn_8)))
    (Th.defF_of (He.eqO_ok (f0.fact 9)) (f0.def_ 9 (d := Hd.fn_9)))
    (Th.defF_of (He.eqO_ok (f0.fact 10)) (f0.def_ 10 (d := Hd.fn_10)))
    (Th.defF_of (He.eqO_ok (f0.fact 11)) (f0.def_ 11 (d := Hd.fn_11)))
    (Th.defF_of (He.eqO_ok (f0.fact 12)) (f0.def_ 12 (d := Hd.fn_12)))
    (Th.defF_of (He.eqO_ok (f0.fact 13)) (f0.def_ 13 (d := Hd.fn_13)))
    (Th.defF_of (He.eqO_ok (f0.fact 14)) (f0.def_ 14 (d := Hd.fn_14)))
    (Th.defF_of (He.eqO_ok (f0.fact 15)) (f0.def_ 15 (d := Hd.fn_15)))
    (Th.defF_of (He.eqO_ok (f0.fact 16)) (f0.def_ 16 (d := Hd.fn_16)))
    (Th.defF_of (He.eqO_ok (f0.fact 17)) (f0.def_ 17 (d := Hd.fn_17)))
    (Th.defF_of (He.eqO_ok (f0.fact 18)) (f0.def_ 18 (d := Hd.fn_18)))
    (Th.defF_of (He.eqO_ok (f0.fact 19)) (f0.def_ 19 (d := Hd.fn_19)))
    (Th.defF_of (He.eqO_ok (f0.fact 20)) (f0.def_ 20 (d := Hd.fn_20)))
    (Th.defF_of (He.eqO_ok (f0.fact 21)) (f0.def_ 21 (d := Hd.fn_21)))
    (Th.defF_of (He.eqO_ok (f0.fact 22)) (f0.def_ 22 (d := Hd.fn_22)))
    (Th.defF_of (He.eqO_ok (f0.fact 23)) (f0.def_ 23 (d := Hd.fn_23)))
    (Th.defF_of (He.eqO_ok (f0.fact 24)) (f0.def_ 24 (d := Hd.fn_24)))
    (Th.defF_of (He.eqO_ok (f0.fact 25)) (f1.def_ 0 (d := Hd.fn_25)))
    (Th.defF_of (He.eqO_ok (f0.fact 26)) (f1.def_ 1 (d := Hd.fn_26)))
    (Th.defF_of (He.eqO_ok (f0.fact 27)) (f1.def_ 2 (d := Hd.fn_27)))
    (Th.defF_of (He.eqO_ok (f0.fact 28)) (f1.def_ 3 (d := Hd.fn_28)))
    (Th.defF_of (He.eqO_ok (f0.fact 29)) (f1.def_ 4 (d := Hd.fn_29)))
    (Th.defF_of (He.eqO_ok (f0.fact 30)) (f1.def_ 5 (d := Hd.fn_30)))
    (Th.defF_of (He.eqO_ok (f0.fact 31)) (f1.def_ 6 (d := Hd.fn_31)))
    (Th.defF_of (He.eqO_ok (f0.fact 32)) (f1.def_ 7 (d := Hd.fn_32)))
    n_MOST_CHARACTERS
    n_NAME_CHARACTERS
    n_MOST_BYTES
    n_LAST_MODE
    n_LAST_TIME
    n_MOST_PIECES
    (He.eqO_ok (f0.fact 39))
    (He.eqO_ok (f0.fact 40))
    (He.eqO_ok (f0.fact 41))
    (Th.clsF_of (He.eqO_ok (f0.fact 43)) (Hk.clsB_ok (f0.fact 44)) (Hk.mkB_ok (f0.fact 45)) (Hk.kindB_ok (f0.fact 46)) (Hk.kitB_ok (f0.fact 47)) kat_hF kget_hF kcl_hF (f0.fact 48) (Hk.noB_ok (f0.fact 49)))
    (Th.iniF_of (f1.def_ 8 (d := Hd.fn_33)) (f0.fact 50))
    (Th.clsF_of (He.eqO_ok (f0.fact 52)) (Hk.clsB_ok (f0.fact 53)) (Hk.mkB_ok (f0.fact 54)) (Hk.kindB_ok (f0.fact 55)) (Hk.kitB_ok (f0.fact 56)) kat_hS kget_hS kcl_hS (f0.fact 57) (Hk.noB_ok (f0.fact 58)))
    (Th.iniF_of (f1.def_ 9 (d := Hd.fn_34)) (f0.fact 59))
    (Th.clsF_of (He.eqO_ok (f0.fact 61)) (Hk.clsB_ok (f0.fact 62)) (Hk.mkB_ok (f0.fact 63)) (Hk.kindB_ok (f0.fact 64)) (Hk.kitB_ok (f0.fact 65)) kat_hD kget_hD kcl_hD (f0.fact 66) (Hk.noB_ok (f0.fact 67)))
    (Th.iniF_of (f1.def_ 10 (d := Hd.fn_35)) (f1.fact 0))
    (Th.clsF_of (He.eqO_ok (f1.fact 2)) (Hk.clsB_ok (f1.fact 3)) (Hk.mkB_ok (f1.fact 4)) (Hk.kindB_ok (f1.fact 5)) (Hk.kitB_ok (f1.fact 6)) kat_hY kget_hY kcl_hY (f1.fact 7) (Hk.noB_ok (f1.fact 8)))
    (Th.iniF_of (f1.def_ 11 (d := Hd.fn_36)) (f1.fact 9))
    (Th.clsF_of (He.eqO_ok (f1.fact 11)) (Hk.clsB_ok (f1.fact 12)) (Hk.mkB_ok (f1.fact 13)) (Hk.kindB_ok (f1.fact 14)) (Hk.kitB_ok (f1.fact 15)) kat_hL kget_hL kcl_hL (f1.fact 16) (Hk.noB_ok (f1.fact 17)))
    (Th.iniF_of (f1.def_ 12 (d := Hd.fn_37)) (f1.fact 18))
    (Hk.kitB_ok (f1.fact 19))
    (Hk.kitB_ok (f1.fact 20))
    (Hk.kitB_ok (f1.fact 21))
    (Hk.kitB_ok (f1.fact 22))
    (Hk.kitB_ok (f1.fact 23))
    (Hk.kitB_ok (f1.fact 24))
    (Hk.kitB_ok (f1.fact 25))
    (Hk.kitB_ok (f1.fact 26))
    (Hk.kitB_ok (f1.fact 27))
    (Hk.kitB_ok (f1.fact 28))
    (Hk.kitB_ok (f1.fact 29))
    (Hk.kitB_ok (f1.fact 30))
    (Hk.kitB_ok (f1.fact 31))
    (Hk.kitB_ok (f1.fact 32))
    (Hk.kitB_ok (f1.fact 33))
    (Hk.kitB_ok (f1.fact 34))
    (Hk.kitB_ok (f1.fact 35))
    (Hk.kitB_ok (f1.fact 36))
    (Hk.kitB_ok (f1.fact 37))
    (Hk.tupB_ok (f1.fact 38))
    (Hk.tupB_ok (f1.fact 39))
    (Hk.kitB_ok (f1.fact 40))
    (Hk.kitB_ok (f1.fact 41))
    (Hk.kitB_ok (f1.fact 42))
    (Hk.kitB_ok (f1.fact 43))
    (Hk.kitB_ok (f1.fact 44))
    (Hk.kitB_ok (f1.fact 45))
    ⟨He.eqO_ok (f1.fact 46), Hk.clsB_ok (f1.fact 47), Hk.mkB_ok (f1.fact 48), Hk.noB_ok (f1.fact 49)⟩
    (Th.metF_of (Hk.methB_ok (f1.fact 50)) (f1.def_ 13 (d := Hd.fn_38)))
    ⟨He.eqO_ok (f1.fact 51), Hk.clsB_ok (f1.fact 52), Hk.mkB_ok (f1.fact 53), Hk.noB_ok (f1.fact 54)⟩
    (Th.metF_of (Hk.methB_ok (f1.fact 55)) (f1.def_ 14 (d := Hd.fn_39)))
    (Th.metF_of (Hk.methB_ok (f1.fact 56)) (f1.def_ 15 (d := Hd.fn_40)))
    (Th.metF_of (Hk.methB_ok (f1.fact 57)) (f1.def_ 16 (d := Hd.fn_41)))
    (Th.metF_of (Hk.methB_ok (f1.fact 58)) (f1.def_ 17 (d := Hd.fn_42)))
    (Th.metF_of (Hk.methB_ok (f1.fact 59)) (f1.def_ 18 (d := Hd.fn_43)))
    (Th.metF_of (Hk.methB_ok (f1.fact 60)) (f1.def_ 19 (d := Hd.fn_44)))
    (Th.metF_of (Hk.methB_ok (f1.fact 61)) (f1.def_ 20 (d := Hd.fn_45)))
    (Th.xF_of (He.eqO_ok (f1.fact 62)) PySem.F.excBase_RuntimeError PySem.F.store_RuntimeError (by decide +kernel) (Hk.exgB_ok (f1.fact 63)) (He.eqO_ok (f1.fact 64)) (f1.def_ 21 (d := Hd.fn_46)))
    (He.eqO_ok (f1.fact 65))
    (of_decide_eq_true (f1.fact 66))
    (fun b hb => He.eqO_ok (List.all_eq_true.mp (show ((["isinstance", "bool", "int", "list", "tuple", "all", "bytes", "str", "len", "abs", "range", "any", "sorted", "dict", "enumerate", "max", "min"] : List Str).all fun b => Hk.freeV b K) = true from (f1.fact 67)) b hb))
end Hd
open PySem PySem.W PySem.Calls PyProof.Rows
set_option maxRecDepth 100000 in
set_option maxHeartbeats 0 in
theorem PySem.Challenge.cw_tarhouse_k39_long_and_odd_names_holds : PySem.Challenge.rw_tarhouse_k39_long_and_odd_names.Holds := by
  refine Hd.early_ ?_
  refine Th.walkGT (l := PySem.Challenge.rw_tarhouse_k39_long_and_odd_names) (n := 63) (k := 18) (x := "_law_script") (sp := fun _ K tabs => Th.spLawT K ((tabs.map (·.2)).zip [("law" : PySem.Str) ++ ".<locals>.<lambda>"])) rfl (by decide) (by kernel_rfl) ⟨rfl, by decide, by decide⟩ ?F (fun _ _ _ _ a ns hl ht hS => ⟨a, ns, rfl, hS, hl, Th.tabs0 ht, fun _ => rfl⟩)
  intro w mg fa h Y G hmg0
  obtain ⟨K, KX, c⟩ := Y
  have hmg : mg ("law" : PySem.Str) = some (.ref fa) := by
    have e : (HandSHeadRun.topDef (OpenLaw.row PySem.Challenge.rw_tarhouse_k39_long_and_odd_names).prog 72).name = ("law" : PySem.Str) := by kernel_rfl
    rw [← e]
    exact hmg0
  obtain ⟨fd, b, r⟩ := Hd.facts_ KX G hmg c.t
  exact ⟨K, Hd.tt K, KX, c.empty, c.out, fun t ht => PySem.W.codeHd_of_K KX (c.hd t ht), fd, b, fun base Xb Gb tb => r base Xb Gb (tb _ (List.mem_cons_self ..))⟩
