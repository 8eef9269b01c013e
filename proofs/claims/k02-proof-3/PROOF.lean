import PyProof.Rows.All
import Wide.All
import OpenK.AllK
import Wide.FinOn
import KE.KStateDown
import HandS.Head0
import HandS.Head1
import HandS.Head2
import HandS.HeadHook1
import HandS.HeadHook2
import HandS.HeadHook3
import KE.KIsAll
import HandS.Words
import HandS.HeadHook4
import KE.KExcInit
import HandS.ForMost
import HandS.IsInst
import HandS.Flow
import HandS.Wide
import HandS.Defaults
import HandS.Codes
import HandS.Bytes
import HandS.StrMore
import HandS.Walk
import HandS.More
import HandS.Conv
import HandS.Style
import HandS.FStr
import HandS.Star
import HandS.MakeKwOnly
import HandS.BytesMake
import KE.KBytesNew
import KE.KStrBytes
import KE.KxField
import PyProof.FString3
import HandS.MapSum
import KE.BytesMulAny
import PyProof.Rows.SumAny
import PyProof.ListStr
import Wide.BytesRules
import PyProof.CallFns
import HandS.RaiseMore
import PyProof.ReprNest
import PyProof.ReprUnder
import PyProof.ReprRoads
import PyProof.ReprDict
import HandS.Exc
import HandS.WordsExc
import HandS.TryOnly
import HandS.ExcInit
import HandS.ExcField
import KE.KExcIs
import KE.KExcLine
import PyProof.ExcBaseAll.OverflowError
import PyProof.ExcBaseAll.TypeError
import PyProof.ExcBaseAll.ValueError
import PyProof.ExcBaseAll.RuntimeError
import PyProof.ExcBaseAll.IndexError
import PyProof.ExcBaseAll.LookupError
import HandS.DictComp
import HandS.Lambda
import PyProof.EqAt
import PyProof.EqKinds
import HandS.EndTab
import HandS.HeadEnd
import HandS.Property
import PySem.Challenge.RW_tarhouse_k02_members_refused
set_option Elab.async false
set_option linter.all false
set_option maxRecDepth 100000
set_option maxHeartbeats 8000000
/-! the head by one kernel run, with facts told by Bools over the part that the names reach -/
namespace Hk
open PySem PySem.Spec PyProof.Rows L2
open He (ga ma eqO relB FnV)
/-! ### the whole heap as a list, the newest first, its spine forced -/
def frU {β : Type} (g : Addr → Option Obj) : Nat → Nat → List (Addr × Obj) → (List (Addr × Obj) → β) → β
  | 0, _, acc, k => k acc
  | m + 1, i, acc, k => match g i with
    | some o => HandSHeadRun.frNat (i + 1) fun j => frU g m j ((i, o) :: acc) k
    | none => HandSHeadRun.frNat (i + 1) fun j => frU g m j acc k
/-- the same, not forced -/
def allU (g : Addr → Option Obj) : Nat → Nat → List (Addr × Obj) → List (Addr × Obj)
  | 0, _, acc => acc
  | m + 1, i, acc => match g i with
    | some o => allU g m (i + 1) ((i, o) :: acc)
    | none => allU g m (i + 1) acc
theorem frU_eq {β : Type} {g : Addr → Option Obj} {k : List (Addr × Obj) → β} : ∀ {m i : Nat} {acc : List (Addr × Obj)}, frU g m i acc k = k (allU g m i acc)
  | 0, _, _ => rfl
  | m + 1, i, acc => by
    unfold frU allU
    cases g i with
    | some o =>
      show HandSHeadRun.frNat (i + 1) (fun j => frU g m j ((i, o) :: acc) k) = _
      rw [HandSHeadRun.frNat_eq]
      exact frU_eq
    | none =>
      show HandSHeadRun.frNat (i + 1) (fun j => frU g m j acc k) = _
      rw [HandSHeadRun.frNat_eq]
      exact frU_eq
theorem lookup_at {a : Addr} {o : Obj} : ∀ {l : List (Addr × Obj)}, l.lookup a = some o → (a, o) ∈ l
  | [], h => by cases h
  | (b, u) :: r, h => by
    have e2 : (match a == b with | true => some u | false => r.lookup a) = some o := h
    cases q : (a == b) with
    | true =>
      rw [q] at e2
      have eo : u = o := Option.some.inj e2
      rw [beq_iff_eq.mp q, eo]
      exact .head _
    | false =>
      rw [q] at e2
      exact .tail _ (lookup_at e2)
theorem allU_mem {g : Addr → Option Obj} : ∀ {m i : Nat} {acc : List (Addr × Obj)}, (∀ p ∈ acc, g p.1 = some p.2) → ∀ p ∈ allU g m i acc, g p.1 = some p.2
  | 0, _, _, h => h
  | m + 1, i, acc, h => by
    unfold allU
    cases e : g i with
    | some o =>
      refine allU_mem (acc := (i, o) :: acc) fun p hp => ?_
      cases hp with
      | head => exact e
      | tail _ q => exact h p q
    | none => exact allU_mem h
theorem allU_in {h : Heap} {m : Nat} : (show PySem.W.Frag from allU h.get? m 0 []).In h := fun a o e => allU_mem (g := h.get?) (acc := []) (fun _ z => by cases z) (a, o) (lookup_at e)
/-! ### defs -/
structure FnP where
  at_ : PySem.W.Frag → Addr
  name : Str
  qual : Str
  st : Stmt
def fnV (K : PySem.W.Frag) (a : Addr) : FnV := match K.lookup a with
  | some ⟨_, _, .func fd, _⟩ => some (fd.name, fd.qualname, fd.params, fd.body, fd.scope, fd.globals, fd.closure, fd.defaults, fd.builtins)
  | _ => none
def FnP.val (d : FnP) : FnV := some (d.name, d.qual, defArgs d.st, .stmts (defBody d.st), defScope d.st, mainGlobals, [], .none, builtinsNs)
def FnP.ok (d : FnP) (K : PySem.W.Frag) : Bool := PySem.W.keepIn K (.ref (d.at_ K)) && (match K.lookup (d.at_ K) with
  | some ⟨_, _, .func fd, _⟩ => PySem.W.codeIn K fd.code d.qual
  | _ => false)
/-- a def's object, as the head leaves it -/
def FnAt (K : PySem.W.Frag) (x q : Str) (st : Stmt) (f : Addr) : Prop := ∃ (oc : Value) (od an : Option Addr) (kV doc pm cdv ct : Value) (osl : Array (Option Value)), K.lookup f = some ⟨oc, od, .func (PySem.W.fnOf x q (defArgs st) (defBody st) (defScope st) .none kV doc pm an cdv ct), osl⟩ ∧ PySem.W.codeIn K cdv q = true
theorem fn_ok {K : PySem.W.Frag} {d : FnP} (e : fnV K (d.at_ K) = d.val) (c : d.ok K = true) : FnAt K d.name d.qual d.st (d.at_ K) ∧ PySem.W.keepIn K (.ref (d.at_ K)) = true := by
  obtain ⟨kp, c2⟩ := He.ba c
  refine ⟨?_, kp⟩
  unfold fnV at e
  cases q : K.lookup (d.at_ K) with
  | none =>
    rw [q] at c2
    cases c2
  | some o =>
    obtain ⟨oc, od, dt, osl⟩ := o
    rw [q] at c2 e
    cases dt with
    | func fd =>
      obtain ⟨n1, n2, n3, n4, n5, n6, n7, n8, n9, n10, n11, n12, n13, n14, n15⟩ := fd
      have e2 : (some (n1, n2, n3, n4, n5, n6, n7, n8, n15) : FnV) = some (d.name, d.qual, defArgs d.st, .stmts (defBody d.st), defScope d.st, mainGlobals, [], .none, builtinsNs) := e
      simp only [Option.some.injEq, Prod.mk.injEq] at e2
      obtain ⟨h1, h2, h3, h4, h5, h6, h7, h8, h9⟩ := e2
      subst h1 h2 h3 h4 h5 h6 h7 h8 h9
      exact ⟨oc, od, n12, n9, n10, n11, n13, n14, osl, q, c2⟩
    | _ => cases c2
/-- a def's object's keyword defaults: where they stand -/
def kwAt (K : PySem.W.Frag) (f : Addr) : Option Addr := match K.lookup f with
  | some ⟨_, _, .func fd, _⟩ => (match fd.kwdefaults with
    | .ref D => some D
    | _ => none)
  | _ => none
theorem kwAt_ok {K : PySem.W.Frag} {f D : Addr} {oc : Value} {od : Option Addr} {osl : Array (Option Value)} {x q : Str} {p : Arguments} {b : List Stmt} {sc : Scope} {dV kV doc pm : Value} {an : Option Addr} {cdv ct : Value} (l : K.lookup f = some ⟨oc, od, .func (PySem.W.fnOf x q p b sc dV kV doc pm an cdv ct), osl⟩)
    (h : kwAt K f = some D) : kV = .ref D := by
  unfold kwAt at h
  rw [l] at h
  cases kV with
  | ref E =>
    have e : some E = some D := h
    rw [Option.some.inj e]
  | _ => cases h
/-! ### values of names -/
def nsV (K : PySem.W.Frag) (a : Addr) (x : Str) (v : V) : Bool := match PySem.W.nsIn K a x with
  | some (some u) => relB v u
  | _ => false
theorem nsV_ok {K : PySem.W.Frag} {a : Addr} {x : Str} {v : V} (h : nsV K a x v = true) : ∃ u, PySem.W.nsIn K a x = some (some u) ∧ RelV v u := by
  unfold nsV at h
  cases e : PySem.W.nsIn K a x with
  | none =>
    rw [e] at h
    cases h
  | some o =>
    rw [e] at h
    cases o with
    | none => cases h
    | some u => exact ⟨u, rfl, He.relB_ok h⟩
theorem nsI {K : PySem.W.Frag} {a : Addr} {x : Str} {i : Int} (h : nsV K a x (.int i) = true) : ∃ t, PySem.W.nsIn K a x = some (some (.int i t)) := by
  obtain ⟨u, e, t, rfl⟩ := nsV_ok h
  exact ⟨t, e⟩
theorem nsS {K : PySem.W.Frag} {a : Addr} {x : Str} {i : Str} (h : nsV K a x (.str i) = true) : ∃ t, PySem.W.nsIn K a x = some (some (.str i t)) := by
  obtain ⟨u, e, t, rfl⟩ := nsV_ok h
  exact ⟨t, e⟩
theorem nsB {K : PySem.W.Frag} {a : Addr} {x : Str} {i : Array UInt8} (h : nsV K a x (.byt i) = true) : ∃ t, PySem.W.nsIn K a x = some (some (.bytes i t)) := by
  obtain ⟨u, e, t, rfl⟩ := nsV_ok h
  exact ⟨t, e⟩
/-- the module's name x stands for an object -/
def refV (x : Str) (K : PySem.W.Frag) : Bool := eqO (PySem.W.nsIn K mainGlobals x) (some (some (.ref (ga K x))))
def freeV (x : Str) (K : PySem.W.Frag) : Bool := eqO (PySem.W.nsIn K mainGlobals x) (some none)
/-! ### keyword defaults of a def -/
def kwsV (K : PySem.W.Frag) (f : Addr) (l : List (Str × V)) : Bool := match kwAt K f with
  | some D => l.all fun q => nsV K D q.1 q.2
  | none => false
theorem kwsV_ok {K : PySem.W.Frag} {f : Addr} {l : List (Str × V)} (h : kwsV K f l = true) : ∃ D, kwAt K f = some D ∧ ∀ q ∈ l, nsV K D q.1 q.2 = true := by
  unfold kwsV at h
  cases e : kwAt K f with
  | none =>
    rw [e] at h
    cases h
  | some D =>
    rw [e] at h
    exact ⟨D, rfl, fun q hq => List.all_eq_true.mp h q hq⟩
/-! ### classes -/
/-- what every class of instances with a dict says -/
def clsB (K : PySem.W.Frag) (C : Addr) : Bool := PySem.W.plainGet K C Str.empty && (PySem.W.hasDictIn K C && (PySem.W.plainOver K C && eqO (PySem.W.findIn K (.ref C) "__setattr__") (some (some (.builtin "object.__setattr__")))))
theorem clsB_ok {K : PySem.W.Frag} {C : Addr} (c : clsB K C = true) : Cls K C := by
  obtain ⟨c1, c⟩ := He.ba c
  obtain ⟨c2, c⟩ := He.ba c
  obtain ⟨c3, c4⟩ := He.ba c
  exact ⟨c1, c2, c3, He.eqO_ok c4⟩
def noB (K : PySem.W.Frag) (C : Addr) (l : List Str) : Bool := l.all fun f => eqO (PySem.W.findIn K (.ref C) f) (some none)
theorem noB_ok {K : PySem.W.Frag} {C : Addr} {l : List Str} (c : noB K C l = true) : ∀ f ∈ l, PySem.W.findIn K (.ref C) f = some none := fun f hf => He.eqO_ok (List.all_eq_true.mp c f hf)
def mkB (K : PySem.W.Frag) (C : Addr) : Bool := PySem.W.makesIn K C && (eqO (PySem.W.findIn K (.ref C) "__init__") (some (some (.ref (ma K C "__init__")))) && (PySem.W.isFn K (.ref (ma K C "__init__")) && PySem.W.keepIn K (.ref C)))
theorem mkB_ok {K : PySem.W.Frag} {C : Addr} (c : mkB K C = true) : Mk K C (ma K C "__init__") := by
  obtain ⟨c1, c⟩ := He.ba c
  obtain ⟨c2, c⟩ := He.ba c
  obtain ⟨c3, c4⟩ := He.ba c
  exact ⟨c1, He.eqO_ok c2, c3, c4⟩
def methB (K : PySem.W.Frag) (C : Addr) (m : Str) : Bool := eqO (PySem.W.findIn K (.ref C) m) (some (some (.ref (ma K C m)))) && (PySem.W.isFn K (.ref (ma K C m)) && PySem.W.keepIn K (.ref (ma K C m)))
theorem methB_ok {K : PySem.W.Frag} {C : Addr} {m : Str} (c : methB K C m = true) : Meth K C m (ma K C m) := by
  obtain ⟨c1, c⟩ := He.ba c
  obtain ⟨c2, c3⟩ := He.ba c
  exact ⟨He.eqO_ok c1, c2, c3⟩
/-- a constant of a class: its value, read at the instance and at the class -/
def conV (K : PySem.W.Frag) (C : Addr) (f : Str) (v : V) : Bool := match PySem.W.findIn K (.ref C) f with
  | some (some u) => relB v u && (eqO (PySem.W.specialIn K u "__get__") (some none) && (match PySem.W.findCls K (.ref C) (.type "type") f with
    | some (.val u') => decide (u' = u)
    | _ => false))
  | _ => false
theorem conV_ok {K : PySem.W.Frag} {C : Addr} {f : Str} {v : V} (h : conV K C f v = true) : ∃ u, PySem.W.findIn K (.ref C) f = some (some u) ∧ RelV v u ∧ PySem.W.specialIn K u "__get__" = some none ∧ PySem.W.findCls K (.ref C) (.type "type") f = some (.val u) := by
  unfold conV at h
  cases e : PySem.W.findIn K (.ref C) f with
  | none =>
    rw [e] at h
    cases h
  | some o =>
    rw [e] at h
    cases o with
    | none => cases h
    | some u =>
      obtain ⟨h1, h⟩ := He.ba (show (relB v u && (eqO (PySem.W.specialIn K u "__get__") (some none) && (match PySem.W.findCls K (.ref C) (.type "type") f with
        | some (.val u') => decide (u' = u)
        | _ => false))) = true from h)
      obtain ⟨h2, h3⟩ := He.ba h
      refine ⟨u, rfl, He.relB_ok h1, He.eqO_ok h2, ?_⟩
      cases q : PySem.W.findCls K (.ref C) (.type "type") f with
      | none =>
        rw [q] at h3
        cases h3
      | some z =>
        rw [q] at h3
        cases z with
        | val u' =>
          have e : u' = u := of_decide_eq_true h3
          rw [e]
        | get _ _ _ _ => cases h3
theorem conS {K : PySem.W.Frag} {C : Addr} {f z : Str} (h : conV K C f (.str z) = true) : ∃ t, PySem.W.findIn K (.ref C) f = some (some (.str z t)) ∧ PySem.W.specialIn K (.str z t) "__get__" = some none ∧ PySem.W.findCls K (.ref C) (.type "type") f = some (.val (.str z t)) := by
  obtain ⟨u, a, ⟨t, rfl⟩, b, c⟩ := conV_ok h
  exact ⟨t, a, b, c⟩
theorem conI {K : PySem.W.Frag} {C : Addr} {f : Str} {z : Int} (h : conV K C f (.int z) = true) : ∃ t, PySem.W.findIn K (.ref C) f = some (some (.int z t)) ∧ PySem.W.specialIn K (.int z t) "__get__" = some none ∧ PySem.W.findCls K (.ref C) (.type "type") f = some (.val (.int z t)) := by
  obtain ⟨u, a, ⟨t, rfl⟩, b, c⟩ := conV_ok h
  exact ⟨t, a, b, c⟩
/-- the class is read as classes are -/
def readB (K : PySem.W.Frag) (C : Addr) : Bool := PySem.W.readsIn K C (.type "type") && eqO (PySem.W.specialIn K (.ref C) "__getattribute__") (some (some (.builtin "type.__getattribute__")))
/-- __class__ is told of its instances -/
def kindB (K : PySem.W.Frag) (C : Addr) : Bool := eqO (PySem.W.findIn K (.ref C) "__class__") (some (some (.builtin "object.__class__"))) && (decide (PySem.W.mroIn K C (.type "object") = some true) && (eqO (PySem.W.specialIn K (.builtin "object.__class__") "__get__") (some (some (.builtin "getset_descriptor.__get__"))) && decide (PySem.W.takesIn K (.builtin "object.__class__") = some true)))
theorem kindB_ok {K : PySem.W.Frag} {C : Addr} (c : kindB K C = true) : PySem.W.findIn K (.ref C) "__class__" = some (some (.builtin "object.__class__")) ∧ PySem.W.mroIn K C (.type "object") = some true ∧ PySem.W.specialIn K (.builtin "object.__class__") "__get__" = some (some (.builtin "getset_descriptor.__get__")) ∧ PySem.W.takesIn K (.builtin "object.__class__") = some true := by
  obtain ⟨c1, c⟩ := He.ba c
  obtain ⟨c2, c⟩ := He.ba c
  obtain ⟨c3, c4⟩ := He.ba c
  exact ⟨He.eqO_ok c1, of_decide_eq_true c2, He.eqO_ok c3, of_decide_eq_true c4⟩
def kitB (K : PySem.W.Frag) (a b : Addr) (r : Bool) : Bool := decide (PySem.W.kitOne K (.ref a) (.ref b) = some r)
theorem kitB_ok {K : PySem.W.Frag} {a b : Addr} {r : Bool} (c : kitB K a b r = true) : PySem.W.kitOne K (.ref a) (.ref b) = some r := of_decide_eq_true c
/-- a property: where its getter stands -/
def getAt (K : PySem.W.Frag) (p : Addr) : Addr := match PySem.W.recIn K p "property" with
  | some (.ref g :: _) => g
  | _ => 0
def propB (K : PySem.W.Frag) (C : Addr) (f : Str) : Bool := eqO (PySem.W.findIn K (.ref C) f) (some (some (.ref (ma K C f)))) && (eqO (PySem.W.specialIn K (.ref (ma K C f)) "__get__") (some (some (.builtin "property.__get__"))) && (decide (PySem.W.takesIn K (.ref (ma K C f)) = some true) && (match PySem.W.recIn K (ma K C f) "property" with
  | some (.ref g :: _) => decide (g = getAt K (ma K C f))
  | _ => false)))
theorem propB_ok {K : PySem.W.Frag} {C : Addr} {f : Str} (c : propB K C f = true) : PySem.W.findIn K (.ref C) f = some (some (.ref (ma K C f))) ∧ PySem.W.specialIn K (.ref (ma K C f)) "__get__" = some (some (.builtin "property.__get__")) ∧ PySem.W.takesIn K (.ref (ma K C f)) = some true ∧ ∃ rest, PySem.W.recIn K (ma K C f) "property" = some (.ref (getAt K (ma K C f)) :: rest) := by
  obtain ⟨c1, c⟩ := He.ba c
  obtain ⟨c2, c⟩ := He.ba c
  obtain ⟨c3, c4⟩ := He.ba c
  refine ⟨He.eqO_ok c1, He.eqO_ok c2, of_decide_eq_true c3, ?_⟩
  cases q : PySem.W.recIn K (ma K C f) "property" with
  | none =>
    rw [q] at c4
    cases c4
  | some l =>
    rw [q] at c4
    cases l with
    | nil => cases c4
    | cons v r =>
      cases v with
      | ref g =>
        have e : g = getAt K (ma K C f) := of_decide_eq_true c4
        rw [← e]
        exact ⟨r, rfl⟩
      | _ => cases c4
/-! ### the Hook -/
abbrev AlX : Type := (Bool × List FnV) × List (Option (List (Option (Str × Int))))
def chk (fa : List (PySem.W.Frag → Bool)) (fn : List FnP) (K : PySem.W.Frag) : Bool := (fa.all fun f => f K) && fn.all fun d => d.ok K
def obsX (fa : List (PySem.W.Frag → Bool)) (fn : List FnP) (ts : List He.Tab) (K : PySem.W.Frag) : AlX := ((chk fa fn K, fn.map fun d => fnV K (d.at_ K)), ts.map fun t => He.dicW K (t.1 K))
def valX (fn : List FnP) (ts : List He.Tab) (w : World) : AlX := ((true, fn.map FnP.val), ts.map fun t => some (He.keysIn w.params t.2))
def SaysX (fa : List (PySem.W.Frag → Bool)) (fn : List FnP) (ts : List He.Tab) (w : World) (K : PySem.W.Frag) : Prop := obsX fa fn ts K = valX fn ts w
def hookX (fa : List (PySem.W.Frag → Bool)) (fn : List FnP) (ts : List He.Tab) : PySem.W.Hook where
  α := AlX
  obs := fun s => obsX fa fn ts (allU s.heap.get? s.heap.objs.size 0 [])
  val := fun w => valX fn ts w
  says := fun w h => ∃ K : PySem.W.Frag, K.In h ∧ SaysX fa fn ts w K
  of := fun _ _ e => ⟨_, allU_in, e⟩
  keeps := fun _ _ _ ⟨K, hK, c⟩ k => ⟨K, PySem.W.Frag.In.keeps hK k, c⟩
/-- what is looked at, off the tree -/
def obX (fa : List (PySem.W.Frag → Bool)) (fn : List FnP) (ts : List He.Tab) (s : PySem.W.SharedT) : AlX := frU (HandSHeadRun.getT s) s.n 0 [] (obsX fa fn ts)
theorem obX_eq {fa : List (PySem.W.Frag → Bool)} {fn : List FnP} {ts : List He.Tab} (s : PySem.W.SharedT) : obX fa fn ts s = (hookX fa fn ts).obs s.abs := by
  unfold obX
  rw [frU_eq]
  have e : HandSHeadRun.getT s = s.abs.heap.get? := funext (HandSHeadRun.getT_eq s)
  have n : s.abs.heap.objs.size = s.n := PySem.W.absHeap_size s.tree s.n s.life
  show obsX fa fn ts (allU (HandSHeadRun.getT s) s.n 0 []) = obsX fa fn ts (allU s.abs.heap.get? s.abs.heap.objs.size 0 [])
  rw [e, n]
section
variable {fa : List (PySem.W.Frag → Bool)} {fn : List FnP} {ts : List He.Tab} {w : World} {K : PySem.W.Frag}
theorem SaysX.chk_ (c : SaysX fa fn ts w K) : chk fa fn K = true := congrArg (fun z : AlX => z.1.1) c
theorem SaysX.fact (c : SaysX fa fn ts w K) (i : Nat) {f : PySem.W.Frag → Bool} (h : fa[i]? = some f := by rfl) : f K = true := List.all_eq_true.mp (He.ba c.chk_).1 f (List.mem_of_getElem? h)
theorem SaysX.def_ (c : SaysX fa fn ts w K) (i : Nat) {d : FnP} (h : fn[i]? = some d := by rfl) : FnAt K d.name d.qual d.st (d.at_ K) ∧ PySem.W.keepIn K (.ref (d.at_ K)) = true := by
  have e : fn.map (fun d => fnV K (d.at_ K)) = fn.map FnP.val := congrArg (fun z : AlX => z.1.2) c
  have e2 : (fn.map fun d => fnV K (d.at_ K))[i]? = (fn.map FnP.val)[i]? := by rw [e]
  rw [List.getElem?_map, List.getElem?_map, h] at e2
  exact fn_ok (Option.some.inj e2) (List.all_eq_true.mp (He.ba c.chk_).2 d (List.mem_of_getElem? h))
theorem SaysX.tab (c : SaysX fa fn ts w K) (i : Nat) {t : He.Tab} (h : ts[i]? = some t := by rfl) : He.dicW K (t.1 K) = some (He.keysIn w.params t.2) := by
  have e : ts.map (fun t => He.dicW K (t.1 K)) = ts.map fun t => some (He.keysIn w.params t.2) := congrArg (fun z : AlX => z.2) c
  have e2 : (ts.map fun t => He.dicW K (t.1 K))[i]? = (ts.map fun t => some (He.keysIn w.params t.2))[i]? := by rw [e]
  rw [List.getElem?_map, List.getElem?_map, h] at e2
  exact Option.some.inj e2
end
/-! ### the facts in chunks, each looked at by a run of its own -/
structure Ck where
  fa : List (PySem.W.Frag → Bool)
  fn : List FnP
  ts : List He.Tab
def Ck.ob (c : Ck) (s : PySem.W.SharedT) : AlX := obX c.fa c.fn c.ts s
def Ck.Says (c : Ck) (w : World) (K : PySem.W.Frag) : Prop := SaysX c.fa c.fn c.ts w K
def hookC (cs : List Ck) : PySem.W.Hook where
  α := List AlX
  obs := fun s => cs.map fun c => obsX c.fa c.fn c.ts (allU s.heap.get? s.heap.objs.size 0 [])
  val := fun w => cs.map fun c => valX c.fn c.ts w
  says := fun w h => ∃ K : PySem.W.Frag, K.In h ∧ ∀ c ∈ cs, c.Says w K
  of := fun _ _ e => ⟨_, allU_in, List.map_inj_left.mp e⟩
  keeps := fun _ _ _ ⟨K, hK, c⟩ k => ⟨K, PySem.W.Frag.In.keeps hK k, c⟩
def obCs (cs : List Ck) (s : PySem.W.SharedT) : List AlX := cs.map fun c => c.ob s
theorem obCs_eq {cs : List Ck} (s : PySem.W.SharedT) : obCs cs s = (hookC cs).obs s.abs := List.map_congr_left fun c _ => obX_eq s
theorem map_split {σ α β γ δ : Type} {o : Option σ} {a : σ → α} {b : σ → β} {g : δ → σ → γ} {v : δ → γ} {va : α} {vb : β} {cs : List δ} (e0 : o.map (fun s => (a s, b s)) = some (va, vb)) (es : ∀ c ∈ cs, o.map (g c) = some (v c)) :
    o.map (fun s => (a s, b s, cs.map fun c => g c s)) = some (va, vb, cs.map v) := by
  cases o with
  | none => cases e0
  | some s =>
    obtain ⟨h1, h2⟩ := Prod.mk.inj (Option.some.inj e0)
    show some (a s, b s, cs.map fun c => g c s) = _
    rw [h1, h2, List.map_congr_left fun c hc => Option.some.inj (es c hc)]
open HandSHeadRun PySem.W PySem.Calls PyProof.Rows in
/-- the run's first equation: the looks, the view -/
def Run0 (r : PySem.W.OpenRow) (q : Program) (M : Nat) (loose : List PySem.Str) (w : World) : Prop :=
  ∀ os : OsState, (endF (stepQ (denQ tabQ) r.prog w) M r.prog w os).map (fun s => (looksF r.prog (boot_heap w.params) s.abs, seenQ q loose (importedModules r.prog.main.body) (fun s => PySem.W.xlAt q [] s && PySem.W.recOk r.toRowW.records s) s.abs)) = some (true, PySem.W.openGood q loose)
open HandSHeadRun PySem.W PySem.Calls PyProof.Rows in
def RunC (r : PySem.W.OpenRow) (M : Nat) (c : Ck) (w : World) : Prop := ∀ os : OsState, (endF (stepQ (denQ tabQ) r.prog w) M r.prog w os).map c.ob = some (valX c.fn c.ts w)
theorem run_of {r : PySem.W.OpenRow} {q : Program} {M : Nat} {loose : List PySem.Str} {cs : List Ck} {w : World} (e0 : Run0 r q M loose w) (es : ∀ c ∈ cs, RunC r M c w) : HandSHeadRun.RunEq r q (hookC cs) (obCs cs) M loose w :=
  fun os => map_split (δ := Ck) (g := fun c s => c.ob s) (v := fun c => valX c.fn c.ts w) (cs := cs) (e0 os) fun c hc => es c hc os
end Hk
/-! the head by one kernel run, with tables of code objects (empty, not in K) -/
namespace Hk
open PySem PySem.Spec PyProof.Rows L2
open He (emptyTab)
/-- what is tracked: all but the empty tables -/
def noT (l : List (Addr × Obj)) : PySem.W.Frag := l.filter fun q => !emptyTab q.2
def allT (g : Addr → Option Obj) (n : Nat) : PySem.W.Frag := noT (allU g n 0 [])
theorem allT_mem {g : Addr → Option Obj} {n : Nat} {a : Addr} {o : Obj} (e : (allT g n).lookup a = some o) : g a = some o ∧ emptyTab o = false := by
  have m : (a, o) ∈ noT (allU g n 0 []) := lookup_at e
  obtain ⟨m1, m2⟩ := List.mem_filter.mp m
  refine ⟨allU_mem (g := g) (acc := []) (fun _ z => by cases z) (a, o) m1, ?_⟩
  have m3 : (!emptyTab o) = true := m2
  cases q : emptyTab o with
  | true =>
    rw [q] at m3
    cases m3
  | false => rfl
theorem allT_in {h : Heap} {n : Nat} : (allT h.get? n).In h := fun a o e => (allT_mem e).1
theorem allT_none {g : Addr → Option Obj} {n : Nat} {a : Addr} {o : Obj} (h : g a = some o) (ht : emptyTab o = true) : (allT g n).lookup a = none := by
  cases e : (allT g n).lookup a with
  | none => rfl
  | some u =>
    obtain ⟨h1, h2⟩ := allT_mem e
    rw [h] at h1
    rw [← Option.some.inj h1, ht] at h2
    cases h2
abbrev TT : Type := PySem.W.Frag → List (Addr × Addr)
def tabsB (g : Addr → Option Obj) (tt : TT) (K : PySem.W.Frag) : Bool := (tt K).all fun p => PySem.W.codeHdIn K p.1 p.2 && (match g p.2 with
  | some o => emptyTab o
  | none => false)
structure SaysT (cs : List Ck) (tt : TT) (w : World) (h : Heap) (K : PySem.W.Frag) : Prop where
  t : ∀ c ∈ cs, c.Says w K
  hd : ∀ p ∈ tt K, PySem.W.codeHdIn K p.1 p.2 = true
  out : ∀ p ∈ tt K, K.lookup p.2 = none
  empty : ∀ p ∈ tt K, h.get? p.2 = some { cls := .none, data := .fields #[] }
theorem saysT_of {cs : List Ck} {tt : TT} {w : World} {h : Heap} {n : Nat} (e1 : ∀ c ∈ cs, c.Says w (allT h.get? n)) (e2 : tabsB h.get? tt (allT h.get? n) = true) : SaysT cs tt w h (allT h.get? n) := by
  have key : ∀ p ∈ tt (allT h.get? n), PySem.W.codeHdIn (allT h.get? n) p.1 p.2 = true ∧ ∃ o, h.get? p.2 = some o ∧ emptyTab o = true := fun p hp => by
    obtain ⟨h3, h4⟩ := He.ba (List.all_eq_true.mp e2 p hp)
    refine ⟨h3, ?_⟩
    cases q : h.get? p.2 with
    | none =>
      rw [q] at h4
      cases h4
    | some o =>
      rw [q] at h4
      exact ⟨o, rfl, h4⟩
  exact ⟨e1, fun p hp => (key p hp).1, fun p hp => by
    obtain ⟨_, o, q, z⟩ := key p hp
    exact allT_none q z, fun p hp => by
    obtain ⟨_, o, q, z⟩ := key p hp
    rw [q, He.emptyTab_eq z]⟩
def hookT (cs : List Ck) (tt : TT) : PySem.W.Hook where
  α := List AlX × Bool
  obs := fun s => (cs.map fun c => obsX c.fa c.fn c.ts (allT s.heap.get? s.heap.objs.size), tabsB s.heap.get? tt (allT s.heap.get? s.heap.objs.size))
  val := fun w => (cs.map fun c => valX c.fn c.ts w, true)
  says := fun w h => ∃ K : PySem.W.Frag, K.In h ∧ SaysT cs tt w h K
  of := fun _ _ e => ⟨_, allT_in, saysT_of (List.map_inj_left.mp (Prod.mk.inj e).1) (Prod.mk.inj e).2⟩
  keeps := fun _ _ _ ⟨K, hK, c⟩ k => ⟨K, PySem.W.Frag.In.keeps hK k, ⟨c.t, c.hd, c.out, fun p hp => k _ _ (c.empty p hp)⟩⟩
/-- what is looked at, off the tree -/
def obT (c : Ck) (s : PySem.W.SharedT) : AlX := frU (HandSHeadRun.getT s) s.n 0 [] fun l => obsX c.fa c.fn c.ts (noT l)
def obTab (tt : TT) (s : PySem.W.SharedT) : Bool := frU (HandSHeadRun.getT s) s.n 0 [] fun l => tabsB (HandSHeadRun.getT s) tt (noT l)
theorem get_eq (s : PySem.W.SharedT) : HandSHeadRun.getT s = s.abs.heap.get? ∧ s.abs.heap.objs.size = s.n := ⟨funext (HandSHeadRun.getT_eq s), PySem.W.absHeap_size s.tree s.n s.life⟩
theorem obT_eq {c : Ck} (s : PySem.W.SharedT) : obT c s = obsX c.fa c.fn c.ts (allT s.abs.heap.get? s.abs.heap.objs.size) := by
  unfold obT
  rw [frU_eq, (get_eq s).2, (get_eq s).1]
  rfl
theorem obTab_eq {tt : TT} (s : PySem.W.SharedT) : obTab tt s = tabsB s.abs.heap.get? tt (allT s.abs.heap.get? s.abs.heap.objs.size) := by
  unfold obTab
  rw [frU_eq, (get_eq s).2, (get_eq s).1]
  rfl
def obTs (cs : List Ck) (tt : TT) (s : PySem.W.SharedT) : List AlX × Bool := (cs.map fun c => obT c s, obTab tt s)
theorem obTs_eq {cs : List Ck} {tt : TT} (s : PySem.W.SharedT) : obTs cs tt s = (hookT cs tt).obs s.abs := Prod.ext (List.map_congr_left fun c _ => obT_eq s) (obTab_eq s)
theorem map_splitT {σ α β γ δ ε : Type} {o : Option σ} {a : σ → α} {b : σ → β} {g : δ → σ → γ} {t : σ → ε} {v : δ → γ} {va : α} {vb : β} {vt : ε} {cs : List δ} (e0 : o.map (fun s => (a s, b s)) = some (va, vb)) (es : ∀ c ∈ cs, o.map (g c) = some (v c)) (et : o.map t = some vt) :
    o.map (fun s => (a s, b s, (cs.map fun c => g c s, t s))) = some (va, vb, (cs.map v, vt)) := by
  cases o with
  | none => cases e0
  | some s =>
    obtain ⟨h1, h2⟩ := Prod.mk.inj (Option.some.inj e0)
    show some (a s, b s, (cs.map fun c => g c s, t s)) = _
    rw [h1, h2, List.map_congr_left fun c hc => Option.some.inj (es c hc), Option.some.inj et]
open HandSHeadRun PySem.W PySem.Calls PyProof.Rows in
def RunT (r : PySem.W.OpenRow) (M : Nat) (c : Ck) (w : World) : Prop := ∀ os : OsState, (endF (stepQ (denQ tabQ) r.prog w) M r.prog w os).map (obT c) = some (valX c.fn c.ts w)
open HandSHeadRun PySem.W PySem.Calls PyProof.Rows in
def RunTab (r : PySem.W.OpenRow) (M : Nat) (tt : TT) (w : World) : Prop := ∀ os : OsState, (endF (stepQ (denQ tabQ) r.prog w) M r.prog w os).map (obTab tt) = some true
open HandSHeadRun PySem.W PySem.Calls PyProof.Rows in
theorem runT_of {r : PySem.W.OpenRow} {q : Program} {M : Nat} {loose : List PySem.Str} {cs : List Ck} {tt : TT} {w : World} (e0 : Run0 r q M loose w) (es : ∀ c ∈ cs, RunT r M c w) (et : RunTab r M tt w) : HandSHeadRun.RunEq r q (hookT cs tt) (obTs cs tt) M loose w :=
  fun os => map_splitT (δ := Ck) (g := obT) (v := fun c => valX c.fn c.ts w) (cs := cs) (e0 os) (fun c hc => es c hc os) (et os)
/-- a def's code object -/
def codeAt (K : PySem.W.Frag) (f : Addr) : Addr := match K.lookup f with
  | some ⟨_, _, .func fd, _⟩ => (match fd.code with
    | .ref c => c
    | _ => 0)
  | _ => 0
def codeB (K : PySem.W.Frag) (f : Addr) : Bool := match K.lookup f with
  | some ⟨_, _, .func fd, _⟩ => decide (fd.code = .ref (codeAt K f))
  | _ => false
theorem codeB_ok {K : PySem.W.Frag} {f : Addr} {oc : Value} {od : Option Addr} {osl : Array (Option Value)} {x q : Str} {p : Arguments} {b : List Stmt} {sc : Scope} {dV kV doc pm : Value} {an : Option Addr} {cdv ct : Value} (l : K.lookup f = some ⟨oc, od, .func (PySem.W.fnOf x q p b sc dV kV doc pm an cdv ct), osl⟩) (h : codeB K f = true) : cdv = .ref (codeAt K f) := by
  unfold codeB at h
  rw [l] at h
  exact of_decide_eq_true h
end Hk
/-! own exceptions, told as Bools -/
namespace Hk
open PySem PySem.Spec PyProof.Rows L2
open He (eqO)
def exgB (K : PySem.W.Frag) (C fI : Addr) (bm : List Value) (newId : String) : Bool := PySem.W.excInitIn K C bm newId && (PySem.W.excOver K C bm && (eqO (PySem.W.findIn K (.ref C) "__setattr__") (some (some (.builtin "object.__setattr__"))) && (eqO (PySem.W.findIn K (.ref C) "__init__") (some (some (.ref fI))) &&
  (decide (PySem.W.typeIn K (.ref fI) = some (.type "function")) && (PySem.W.keepIn K (.ref C) && (eqO (PySem.W.findIn K (.ref C) "__getattribute__") (some (some (.builtin "BaseException.__getattribute__"))) && (eqO (PySem.W.findIn K (.ref C) "__getattr__") (some none) &&
  (decide (PySem.W.subIn K (.ref C) (.type "BaseException") = some true) && (PySem.W.hasDictIn K C && (kindB K C && decide (PySem.W.typeIn K (.ref C) = some (.type "type"))))))))))))
theorem exgB_ok {K : PySem.W.Frag} {C fI : Addr} {bm : List Value} {newId : String} (h : exgB K C fI bm newId = true) : PySem.W.excInitIn K C bm newId = true ∧ PySem.W.excOver K C bm = true ∧ PySem.W.findIn K (.ref C) "__setattr__" = some (some (.builtin "object.__setattr__")) ∧ PySem.W.findIn K (.ref C) "__init__" = some (some (.ref fI)) ∧
    PySem.W.typeIn K (.ref fI) = some (.type "function") ∧ PySem.W.keepIn K (.ref C) = true ∧ PySem.W.findIn K (.ref C) "__getattribute__" = some (some (.builtin "BaseException.__getattribute__")) ∧ PySem.W.findIn K (.ref C) "__getattr__" = some none ∧
    PySem.W.subIn K (.ref C) (.type "BaseException") = some true ∧ PySem.W.hasDictIn K C = true ∧ kindB K C = true ∧ PySem.W.typeIn K (.ref C) = some (.type "type") := by
  obtain ⟨a1, h⟩ := He.ba h
  obtain ⟨a2, h⟩ := He.ba h
  obtain ⟨a3, h⟩ := He.ba h
  obtain ⟨a4, h⟩ := He.ba h
  obtain ⟨a5, h⟩ := He.ba h
  obtain ⟨a6, h⟩ := He.ba h
  obtain ⟨a7, h⟩ := He.ba h
  obtain ⟨a8, h⟩ := He.ba h
  obtain ⟨a9, h⟩ := He.ba h
  obtain ⟨a10, h⟩ := He.ba h
  obtain ⟨a11, a12⟩ := He.ba h
  exact ⟨a1, a2, He.eqO_ok a3, He.eqO_ok a4, of_decide_eq_true a5, a6, He.eqO_ok a7, He.eqO_ok a8, of_decide_eq_true a9, a10, a11, of_decide_eq_true a12⟩
abbrev mTE : List Value := [.type "TypeError", .type "Exception", .type "BaseException", .type "object"]
abbrev mVE : List Value := [.type "ValueError", .type "Exception", .type "BaseException", .type "object"]
abbrev mOE : List Value := [.type "OverflowError", .type "ArithmeticError", .type "Exception", .type "BaseException", .type "object"]
def exmsB (K : PySem.W.Frag) (l : List (Addr × Addr × Bool)) : Bool := l.all fun q => decide (PySem.W.exmOne K (.ref q.1) (.ref q.2.1) = some q.2.2)
theorem exmsB_ok {K : PySem.W.Frag} {l : List (Addr × Addr × Bool)} (h : exmsB K l = true) : ∀ q ∈ l, PySem.W.exmOne K (.ref q.1) (.ref q.2.1) = some q.2.2 := fun q hq => of_decide_eq_true (List.all_eq_true.mp h q hq)
def kitsT (K : PySem.W.Frag) (l : List (Addr × String)) : Bool := l.all fun q => decide (PySem.W.kitOne K (.ref q.1) (.type q.2) = some true)
theorem kitsT_ok {K : PySem.W.Frag} {l : List (Addr × String)} (h : kitsT K l = true) : ∀ q ∈ l, PySem.W.kitOne K (.ref q.1) (.type q.2) = some true := fun q hq => of_decide_eq_true (List.all_eq_true.mp h q hq)
def kitsF (K : PySem.W.Frag) (l : List (Addr × Addr)) : Bool := l.all fun q => decide (PySem.W.kitOne K (.ref q.1) (.ref q.2) = some false)
theorem kitsF_ok {K : PySem.W.Frag} {l : List (Addr × Addr)} (h : kitsF K l = true) : ∀ q ∈ l, PySem.W.kitOne K (.ref q.1) (.ref q.2) = some false := fun q hq => of_decide_eq_true (List.all_eq_true.mp h q hq)
end Hk
namespace Hd
open PySem PySem.Spec PyProof.Rows L2
abbrev R : PySem.W.OpenRow := PySem.W.OpenLaw.row PySem.Challenge.rw_tarhouse_k02_members_refused
abbrev qv : Program := PySem.W.view R.prog [59]
def tS (i : Nat) : Stmt := PySem.Challenge.pw_tarhouse_k02_members_refused.main.body.getD i (.Pass ⟨0, 0, 0, 0⟩)
def names0 : List PySem.Str := ["_wall", "is_integer", "is_integer_within", "copied", "NoBlob", "NoData", "NoBlock", "NoMember", "NoName", "NoMode", "NoSize", "NoPieces", "NoText", "NoCommand", "NoTime"]
def names1 : List PySem.Str := ["TooMany", "NAME_CHARACTERS", "MOST_CHARACTERS", "MOST_BYTES", "MOST_PIECES", "LAST_MODE", "LAST_TIME", "is_name", "is_data", "is_size", "is_mode", "is_time", "are_pieces", "is_piece", "are_spans"]
def names2 : List PySem.Str := ["check_name", "check_data", "check_pieces", "check_mode_and_time", "Member", "File", "Sparse", "Directory", "Symlink", "Link", "blob", "is_row_of_bytes", "_law_source", "_law_draw", "_law_error"]
def names3 : List PySem.Str := ["_law_pick", "_law_stamps_due", "_law_random_stamps", "_law_wrong_names", "_law_links_right", "_law_files_right", "_law_blob_error", "_law_blobs_right"]
def names : List PySem.Str := names0 ++ (names1 ++ (names2 ++ (names3)))
abbrev fn_0 : Hk.FnP := ⟨fun K => (He.ga K "law"), "law", "law", tS 59⟩
abbrev fn_1 : Hk.FnP := ⟨fun K => (He.ga K "copied"), "copied", "copied", tS 5⟩
abbrev fn_2 : Hk.FnP := ⟨fun K => (He.ga K "is_integer"), "is_integer", "is_integer", tS 2⟩
abbrev fn_3 : Hk.FnP := ⟨fun K => (He.ga K "is_integer_within"), "is_integer_within", "is_integer_within", tS 3⟩
abbrev fn_4 : Hk.FnP := ⟨fun K => (He.ga K "is_name"), "is_name", "is_name", tS 26⟩
abbrev fn_5 : Hk.FnP := ⟨fun K => (He.ga K "is_data"), "is_data", "is_data", tS 27⟩
abbrev fn_6 : Hk.FnP := ⟨fun K => (He.ga K "is_size"), "is_size", "is_size", tS 28⟩
abbrev fn_7 : Hk.FnP := ⟨fun K => (He.ga K "is_mode"), "is_mode", "is_mode", tS 29⟩
abbrev fn_8 : Hk.FnP := ⟨fun K => (He.ga K "is_time"), "is_time", "is_time", tS 30⟩
abbrev fn_9 : Hk.FnP := ⟨fun K => (He.ga K "is_piece"), "is_piece", "is_piece", tS 32⟩
abbrev fn_10 : Hk.FnP := ⟨fun K => (He.ga K "are_spans"), "are_spans", "are_spans", tS 33⟩
abbrev fn_11 : Hk.FnP := ⟨fun K => (He.ga K "are_pieces"), "are_pieces", "are_pieces", tS 31⟩
abbrev fn_12 : Hk.FnP := ⟨fun K => (He.ga K "check_name"), "check_name", "check_name", tS 34⟩
abbrev fn_13 : Hk.FnP := ⟨fun K => (He.ga K "check_data"), "check_data", "check_data", tS 35⟩
abbrev fn_14 : Hk.FnP := ⟨fun K => (He.ga K "check_pieces"), "check_pieces", "check_pieces", tS 36⟩
abbrev fn_15 : Hk.FnP := ⟨fun K => (He.ga K "check_mode_and_time"), "check_mode_and_time", "check_mode_and_time", tS 37⟩
abbrev fn_16 : Hk.FnP := ⟨fun K => (He.ga K "blob"), "blob", "blob", tS 45⟩
abbrev fn_17 : Hk.FnP := ⟨fun K => (He.ga K "is_row_of_bytes"), "is_row_of_bytes", "is_row_of_bytes", tS 46⟩
abbrev fn_18 : Hk.FnP := ⟨fun K => (He.ga K "_law_source"), "_law_source", "_law_source", tS 48⟩
abbrev fn_19 : Hk.FnP := ⟨fun K => (He.ga K "_law_draw"), "_law_draw", "_law_draw", tS 49⟩
abbrev fn_20 : Hk.FnP := ⟨fun K => (He.ga K "_law_error"), "_law_error", "_law_error", tS 50⟩
abbrev fn_21 : Hk.FnP := ⟨fun K => (He.ga K "_law_pick"), "_law_pick", "_law_pick", tS 51⟩
abbrev fn_22 : Hk.FnP := ⟨fun K => (He.ga K "_law_stamps_due"), "_law_stamps_due", "_law_stamps_due", tS 52⟩
abbrev fn_23 : Hk.FnP := ⟨fun K => (He.ga K "_law_random_stamps"), "_law_random_stamps", "_law_random_stamps", tS 53⟩
abbrev fn_24 : Hk.FnP := ⟨fun K => (He.ga K "_law_wrong_names"), "_law_wrong_names", "_law_wrong_names", tS 54⟩
abbrev fn_25 : Hk.FnP := ⟨fun K => (He.ga K "_law_blob_error"), "_law_blob_error", "_law_blob_error", tS 57⟩
abbrev fn_26 : Hk.FnP := ⟨fun K => (He.ga K "_law_blobs_right"), "_law_blobs_right", "_law_blobs_right", tS 58⟩
abbrev fn_27 : Hk.FnP := ⟨fun K => (He.ga K "_law_links_right"), "_law_links_right", "_law_links_right", tS 55⟩
abbrev fn_28 : Hk.FnP := ⟨fun K => (He.ga K "_law_files_right"), "_law_files_right", "_law_files_right", tS 56⟩
abbrev fn_29 : Hk.FnP := ⟨fun K => (He.ma K (He.ga K "NoName") "__init__"), "__init__", "NoName.__init__", (inClass (tS 11) 0)⟩
abbrev fn_30 : Hk.FnP := ⟨fun K => (He.ma K (He.ga K "NoData") "__init__"), "__init__", "NoData.__init__", (inClass (tS 8) 0)⟩
abbrev fn_31 : Hk.FnP := ⟨fun K => (He.ma K (He.ga K "NoSize") "__init__"), "__init__", "NoSize.__init__", (inClass (tS 13) 0)⟩
abbrev fn_32 : Hk.FnP := ⟨fun K => (He.ma K (He.ga K "NoPieces") "__init__"), "__init__", "NoPieces.__init__", (inClass (tS 14) 0)⟩
abbrev fn_33 : Hk.FnP := ⟨fun K => (He.ma K (He.ga K "NoMode") "__init__"), "__init__", "NoMode.__init__", (inClass (tS 12) 0)⟩
abbrev fn_34 : Hk.FnP := ⟨fun K => (He.ma K (He.ga K "NoTime") "__init__"), "__init__", "NoTime.__init__", (inClass (tS 17) 0)⟩
abbrev fn_35 : Hk.FnP := ⟨fun K => (He.ma K (He.ga K "NoBlob") "__init__"), "__init__", "NoBlob.__init__", (inClass (tS 7) 0)⟩
abbrev fn_36 : Hk.FnP := ⟨fun K => (He.ma K (He.ga K "File") "__init__"), "__init__", "File.__init__", (inClass (tS 39) 1)⟩
abbrev fn_37 : Hk.FnP := ⟨fun K => (He.ma K (He.ga K "Sparse") "__init__"), "__init__", "Sparse.__init__", (inClass (tS 40) 1)⟩
abbrev fn_38 : Hk.FnP := ⟨fun K => (He.ma K (He.ga K "Directory") "__init__"), "__init__", "Directory.__init__", (inClass (tS 41) 1)⟩
abbrev fn_39 : Hk.FnP := ⟨fun K => (He.ma K (He.ga K "Symlink") "__init__"), "__init__", "Symlink.__init__", (inClass (tS 42) 1)⟩
abbrev fn_40 : Hk.FnP := ⟨fun K => (He.ma K (He.ga K "Link") "__init__"), "__init__", "Link.__init__", (inClass (tS 43) 1)⟩
def fa0_0 : List (PySem.W.Frag → Bool) := [Hk.refV "law", Hk.refV "copied", Hk.refV "is_integer", Hk.refV "is_integer_within", Hk.refV "is_name", Hk.refV "is_data", Hk.refV "is_size", Hk.refV "is_mode", Hk.refV "is_time", Hk.refV "is_piece"]
def fa0_1 : List (PySem.W.Frag → Bool) := [Hk.refV "are_spans", Hk.refV "are_pieces", Hk.refV "check_name", Hk.refV "check_data", Hk.refV "check_pieces", Hk.refV "check_mode_and_time", Hk.refV "blob", Hk.refV "is_row_of_bytes", Hk.refV "_law_source", Hk.refV "_law_draw"]
def fa0_2 : List (PySem.W.Frag → Bool) := [Hk.refV "_law_error", Hk.refV "_law_pick", Hk.refV "_law_stamps_due", Hk.refV "_law_random_stamps", Hk.refV "_law_wrong_names", Hk.refV "_law_blob_error", Hk.refV "_law_blobs_right", Hk.refV "_law_links_right", Hk.refV "_law_files_right", Hk.refV "NoName"]
def fa0_3 : List (PySem.W.Frag → Bool) := [fun K => Hk.exgB K (He.ga K "NoName") (He.ma K (He.ga K "NoName") "__init__") Hk.mVE "ValueError.__new__", fun K => He.eqO (PySem.W.findIn K (.ref (He.ga K "NoName")) "name") (some none), Hk.refV "NoData", fun K => Hk.exgB K (He.ga K "NoData") (He.ma K (He.ga K "NoData") "__init__") Hk.mTE "TypeError.__new__", fun K => He.eqO (PySem.W.findIn K (.ref (He.ga K "NoData")) "thing") (some none), Hk.refV "NoSize", fun K => Hk.exgB K (He.ga K "NoSize") (He.ma K (He.ga K "NoSize") "__init__") Hk.mVE "ValueError.__new__", fun K => He.eqO (PySem.W.findIn K (.ref (He.ga K "NoSize")) "size") (some none), Hk.refV "NoPieces", fun K => Hk.exgB K (He.ga K "NoPieces") (He.ma K (He.ga K "NoPieces") "__init__") Hk.mVE "ValueError.__new__"]
def fa0_4 : List (PySem.W.Frag → Bool) := [fun K => He.eqO (PySem.W.findIn K (.ref (He.ga K "NoPieces")) "pieces") (some none), Hk.refV "NoMode", fun K => Hk.exgB K (He.ga K "NoMode") (He.ma K (He.ga K "NoMode") "__init__") Hk.mVE "ValueError.__new__", fun K => He.eqO (PySem.W.findIn K (.ref (He.ga K "NoMode")) "mode") (some none), Hk.refV "NoTime", fun K => Hk.exgB K (He.ga K "NoTime") (He.ma K (He.ga K "NoTime") "__init__") Hk.mOE "OverflowError.__new__", fun K => He.eqO (PySem.W.findIn K (.ref (He.ga K "NoTime")) "time") (some none), Hk.refV "NoBlob", fun K => Hk.exgB K (He.ga K "NoBlob") (He.ma K (He.ga K "NoBlob") "__init__") Hk.mTE "TypeError.__new__", fun K => He.eqO (PySem.W.findIn K (.ref (He.ga K "NoBlob")) "numbers") (some none)]
def fa0_5 : List (PySem.W.Frag → Bool) := [Hk.refV "NoText", Hk.refV "NoBlock", Hk.refV "NoMember", Hk.refV "NoCommand", Hk.refV "TooMany", Hk.refV "File", fun K => Hk.clsB K (He.ga K "File"), fun K => Hk.mkB K (He.ga K "File"), fun K => Hk.noB K (He.ga K "File") ["name", "data", "mode", "time"], Hk.refV "Sparse"]
def fa0_6 : List (PySem.W.Frag → Bool) := [fun K => Hk.clsB K (He.ga K "Sparse"), fun K => Hk.mkB K (He.ga K "Sparse"), fun K => Hk.noB K (He.ga K "Sparse") ["name", "size", "mode", "time", "pieces"], Hk.refV "Directory", fun K => Hk.clsB K (He.ga K "Directory"), fun K => Hk.mkB K (He.ga K "Directory"), fun K => Hk.noB K (He.ga K "Directory") ["name", "mode", "time"], Hk.refV "Symlink", fun K => Hk.clsB K (He.ga K "Symlink"), fun K => Hk.mkB K (He.ga K "Symlink")]
def fa0_7 : List (PySem.W.Frag → Bool) := [fun K => Hk.noB K (He.ga K "Symlink") ["name", "target", "mode", "time"], Hk.refV "Link", fun K => Hk.clsB K (He.ga K "Link"), fun K => Hk.mkB K (He.ga K "Link"), fun K => Hk.noB K (He.ga K "Link") ["name", "target", "mode", "time"]]
def fa0_ : List (PySem.W.Frag → Bool) := fa0_0 ++ (fa0_1 ++ (fa0_2 ++ (fa0_3 ++ (fa0_4 ++ (fa0_5 ++ (fa0_6 ++ (fa0_7)))))))
def fa1_0 : List (PySem.W.Frag → Bool) := [fun K => Hk.kwsV K (He.ma K (He.ga K "File") "__init__") [("mode", .int 420), ("time", .int 0)], fun K => Hk.kwsV K (He.ma K (He.ga K "Sparse") "__init__") [("mode", .int 420), ("time", .int 0)], fun K => Hk.kwsV K (He.ma K (He.ga K "Directory") "__init__") [("mode", .int 493), ("time", .int 0)], fun K => Hk.kwsV K (He.ma K (He.ga K "Symlink") "__init__") [("mode", .int 511), ("time", .int 0)], fun K => Hk.kwsV K (He.ma K (He.ga K "Link") "__init__") [("mode", .int 420), ("time", .int 0)], fun K => Hk.nsV K mainGlobals "MOST_CHARACTERS" (.int (250)), fun K => Hk.nsV K mainGlobals "NAME_CHARACTERS" (.str ("abcdefghijklmnopqrstuvwxyz0123456789._-/")), fun K => Hk.nsV K mainGlobals "MOST_BYTES" (.int (4096)), fun K => Hk.nsV K mainGlobals "MOST_PIECES" (.int (50)), fun K => Hk.nsV K mainGlobals "LAST_MODE" (.int (4095))]
def fa1_1 : List (PySem.W.Frag → Bool) := [fun K => Hk.nsV K mainGlobals "LAST_TIME" (.int (8589934591)), fun K => Hk.exmsB K [((He.ga K "NoName"), (He.ga K "NoName"), true), ((He.ga K "NoData"), (He.ga K "NoName"), false), ((He.ga K "NoData"), (He.ga K "NoData"), true), ((He.ga K "NoSize"), (He.ga K "NoName"), false), ((He.ga K "NoSize"), (He.ga K "NoData"), false), ((He.ga K "NoSize"), (He.ga K "NoSize"), true), ((He.ga K "NoPieces"), (He.ga K "NoName"), false), ((He.ga K "NoPieces"), (He.ga K "NoData"), false), ((He.ga K "NoPieces"), (He.ga K "NoSize"), false), ((He.ga K "NoPieces"), (He.ga K "NoPieces"), true)], fun K => Hk.exmsB K [((He.ga K "NoMode"), (He.ga K "NoName"), false), ((He.ga K "NoMode"), (He.ga K "NoData"), false), ((He.ga K "NoMode"), (He.ga K "NoSize"), false), ((He.ga K "NoMode"), (He.ga K "NoPieces"), false), ((He.ga K "NoMode"), (He.ga K "NoMode"), true), ((He.ga K "NoTime"), (He.ga K "NoName"), false), ((He.ga K "NoTime"), (He.ga K "NoData"), false), ((He.ga K "NoTime"), (He.ga K "NoSize"), false), ((He.ga K "NoTime"), (He.ga K "NoPieces"), false), ((He.ga K "NoTime"), (He.ga K "NoMode"), false), ((He.ga K "NoTime"), (He.ga K "NoTime"), true)], fun K => Hk.kitsT K [((He.ga K "NoName"), "ValueError"), ((He.ga K "NoData"), "TypeError"), ((He.ga K "NoSize"), "ValueError"), ((He.ga K "NoPieces"), "ValueError"), ((He.ga K "NoMode"), "ValueError"), ((He.ga K "NoTime"), "OverflowError")], fun K => Hk.kitsF K [((He.ga K "NoSize"), (He.ga K "NoPieces")), ((He.ga K "NoPieces"), (He.ga K "NoMode")), ((He.ga K "NoMode"), (He.ga K "NoCommand")), ((He.ga K "NoTime"), (He.ga K "TooMany"))], fun K => decide (PySem.W.kitAny K (.ref (He.ga K "NoName")) [.ref (He.ga K "NoMode"), .ref (He.ga K "NoText")] = some false), fun K => decide (PySem.W.kitAny K (.ref (He.ga K "NoData")) [.ref (He.ga K "NoBlob"), .ref (He.ga K "NoBlock"), .ref (He.ga K "NoMember")] = some false), fun K => decide (PySem.W.kitOne K (.ref (He.ga K "NoBlob")) (.type "TypeError") = some true), fun K => decide (PySem.W.kitAny K (.ref (He.ga K "NoBlob")) [.ref (He.ga K "NoData"), .ref (He.ga K "NoBlock"), .ref (He.ga K "NoMember")] = some false), fun K => decide (PySem.W.exmOne K (.ref (He.ga K "NoBlob")) (.ref (He.ga K "NoBlob")) = some true)]
def fa1_2 : List (PySem.W.Frag → Bool) := [fun K => decide ((He.cT K ("_law_links_right", none)).2 ≠ (He.cT K ("_law_files_right", none)).2), fun K => ((["isinstance", "bool", "int", "list", "tuple", "dict", "all", "bytes", "len", "abs", "min", "max", "range", "repr", "str", "ValueError", "TypeError", "OverflowError"] : List Str).all fun b => Hk.freeV b K)]
def fa1_ : List (PySem.W.Frag → Bool) := fa1_0 ++ (fa1_1 ++ (fa1_2))
def fn0_0 : List Hk.FnP := [fn_0, fn_1, fn_2, fn_3, fn_4, fn_5, fn_6, fn_7, fn_8, fn_9, fn_10, fn_11, fn_12, fn_13, fn_14]
def fn0_1 : List Hk.FnP := [fn_15, fn_16, fn_17, fn_18, fn_19, fn_20, fn_21, fn_22, fn_23, fn_24, fn_25, fn_26, fn_27, fn_28, fn_29]
def fn0_2 : List Hk.FnP := [fn_30, fn_31, fn_32, fn_33, fn_34, fn_35, fn_36, fn_37, fn_38, fn_39, fn_40]
def fn0_ : List Hk.FnP := fn0_0 ++ (fn0_1 ++ (fn0_2))
def ts : List He.Tab := []
def ck_f0 : Hk.Ck := ⟨fa0_, [], []⟩
def ck_f1 : Hk.Ck := ⟨fa1_, [], []⟩
def ck_d0 : Hk.Ck := ⟨[], fn0_, ts⟩
def cks : List Hk.Ck := [ck_f0, ck_f1, ck_d0]
def tt : Hk.TT := fun K => [He.cT K ("_law_links_right", none), He.cT K ("_law_files_right", none)]
abbrev hk : PySem.W.Hook := Hk.hookT cks tt
def ob (s : PySem.W.SharedT) : List Hk.AlX × Bool := Hk.obTs cks tt s
theorem ob_eq (s : PySem.W.SharedT) : ob s = hk.obs s.abs := Hk.obTs_eq s
set_option maxHeartbeats 0 in
theorem run0 (w : World) : Hk.Run0 R qv 7000 names w := by
  refine PySem.W.byRow2 "special-get-raises" (P := Hk.Run0 R qv 7000 names) (fun w => ?_) (fun w => ?_) w
  · intro os; kernel_rfl
  · intro os; kernel_rfl
set_option maxHeartbeats 0 in
theorem run_f0 (w : World) : Hk.RunT R 7000 ck_f0 w := by
  refine PySem.W.byRow2 "special-get-raises" (P := Hk.RunT R 7000 ck_f0) (fun w => ?_) (fun w => ?_) w
  · intro os; kernel_rfl
  · intro os; kernel_rfl
set_option maxHeartbeats 0 in
theorem run_f1 (w : World) : Hk.RunT R 7000 ck_f1 w := by
  refine PySem.W.byRow2 "special-get-raises" (P := Hk.RunT R 7000 ck_f1) (fun w => ?_) (fun w => ?_) w
  · intro os; kernel_rfl
  · intro os; kernel_rfl
set_option maxHeartbeats 0 in
theorem run_d0 (w : World) : Hk.RunT R 7000 ck_d0 w := by
  refine PySem.W.byRow2 "special-get-raises" (P := Hk.RunT R 7000 ck_d0) (fun w => ?_) (fun w => ?_) w
  · intro os; kernel_rfl
  · intro os; kernel_rfl
set_option maxHeartbeats 0 in
theorem run_tab (w : World) : Hk.RunTab R 7000 tt w := by
  refine PySem.W.byRow2 "special-get-raises" (P := Hk.RunTab R 7000 tt) (fun w => ?_) (fun w => ?_) w
  · intro os; kernel_rfl
  · intro os; kernel_rfl
theorem run (w : World) : HandSHeadRun.RunEq R qv hk ob 7000 names w := Hk.runT_of (run0 w) (fun c hc => by
  simp only [cks, List.mem_cons, List.not_mem_nil, or_false] at hc
  rcases hc with rfl | rfl | rfl
  · exact run_f0 w
  · exact run_f1 w
  · exact run_d0 w) (run_tab w)
end Hd
namespace Th
open PySem PySem.Spec PyProof.Rows L2
section
variable {K : PySem.W.Frag} {σ : L2.St} {H : Hp} {Q : VK} {D : Ends} {t u : TS} {c : TT} {te ta tb tx : TE} {g : TG} {r r' : R2} {v x y : V} {i : Nat} {to tp : TO}
theorem r_seq (h : t { D with nx := u D } σ H) : tSeq t u D σ H := h
theorem r_if (h : c σ H fun b H1 => if b = true then t D σ H1 else u D σ H1) : tIfS c t u D σ H := h
theorem r_asg (h : te σ H fun x H1 => g x σ H1 D.nx) : tAsg te g D σ H := h
theorem r_ret (h : te σ H D.rt) : tRet te D σ H := h
theorem r_next (h : D.nx σ H) : tNext D σ H := h
theorem r_drop (h : te σ H fun _ H1 => D.nx σ H1) : tDrop te D σ H := h
theorem r_cont (h : D.ct σ H) : tCont D σ H := h
theorem r_brk (h : D.bk σ H) : tBreak D σ H := h
theorem r_gname {Q : L2.St → Hp → Prop} (h : Q (σ.set i (some v)) H) : gName i v σ H Q := h
theorem r_var (e : σ[i]? = some (some v)) (h : Q v H) : tVar i σ H Q := ⟨v, e, h⟩
theorem r_c (h : Q v H) : tC v σ H Q := h
theorem r_op (h : ta σ H fun x H1 => tb σ H1 fun y H2 => r x y H2 Q) : tOp r ta tb σ H Q := h
theorem r_un {r : V → Hp → VK → Prop} (h : ta σ H fun x H1 => r x H1 Q) : tUn r ta σ H Q := h
theorem r_neg {i : Int} (h : Q (.int (-i)) H) : rU (fun i => .int (-i)) (.int i) H Q := ⟨i, rfl, h⟩
theorem r_I0 {g : Int → Int → V} {i j : Int} (h : Q (g i j) H) : rI0 g (.int i) (.int j) H Q := ⟨i, j, rfl, rfl, h⟩
theorem r_I {C : Int → Int → Prop} {g : Int → Int → V} {i j : Int} (hc : C i j) (h : Q (g i j) H) : rI C g (.int i) (.int j) H Q := ⟨i, j, rfl, rfl, hc, h⟩
theorem r_test {t : TE} {Q : Bool → Hp → Prop} (h : t σ H fun x H' => ∃ k, x = .bl k ∧ Q k H') : tTest t σ H Q := h
theorem r_tB {t : TE} {Q : Bool → Hp → Prop} (h : t σ H fun x H' => ∃ k, x = .bl k ∧ Q k H') : tB t σ H Q := h
theorem r_bl {b : Bool} {P : Bool → Prop} (h : P b) : ∃ k, V.bl b = .bl k ∧ P k := ⟨b, rfl, h⟩
theorem r_not {t : TT} {Q : Bool → Hp → Prop} (h : t σ H fun c H1 => Q (!c) H1) : tNot t σ H Q := h
theorem r_and {t u : TT} {Q : Bool → Hp → Prop} (h : t σ H fun c H1 => if c = true then u σ H1 Q else Q false H1) : tAnd t u σ H Q := h
theorem r_or {t u : TT} {Q : Bool → Hp → Prop} (h : t σ H fun c H1 => if c = true then Q true H1 else u σ H1 Q) : tOr t u σ H Q := h
theorem r_ifE {t : TT} (h : t σ H fun c H1 => if c = true then ta σ H1 Q else tb σ H1 Q) : tIf t ta tb σ H Q := h
theorem r_notV {t : TE} (h : t σ H fun x H1 => ∃ k, x = .bl k ∧ Q (.bl (!k)) H1) : tNotV t σ H Q := h
theorem r_andV (h : ta σ H fun x H1 => ∃ k, x = .bl k ∧ if k = true then tb σ H1 Q else Q (.bl false) H1) : tAndV ta tb σ H Q := h
theorem r_orV (h : ta σ H fun x H1 => ∃ k, x = .bl k ∧ if k = true then Q (.bl true) H1 else tb σ H1 Q) : tOrV ta tb σ H Q := h
theorem r_chain (h : ta σ H fun x H1 => tb σ H1 fun y H2 => r x y H2 fun z H3 => ∃ k, z = .bl k ∧ (if k = true then tx σ H3 fun w' H4 => r' y w' H4 Q else Q (.bl false) H3)) : tChain r r' ta tb tx σ H Q := h
theorem r_iteD {p A B : Prop} [Decidable p] (h1 : p → A) (h2 : ¬ p → B) : if decide p = true then A else B := by
  by_cases h : p
  · rw [if_pos (decide_eq_true h)]; exact h1 h
  · rw [if_neg (by rw [decide_eq_false h]; exact Bool.false_ne_true)]; exact h2 h
theorem r_iteT {A B : Prop} (h : A) : if true = true then A else B := by rw [if_pos rfl]; exact h
theorem r_iteF {A B : Prop} (h : B) : if false = true then A else B := by rw [if_neg Bool.false_ne_true]; exact h
theorem r_iteB {b : Bool} {A B : Prop} (h1 : b = true → A) (h2 : b = false → B) : if b = true then A else B := by
  cases b with
  | true => exact r_iteT (h1 rfl)
  | false => exact r_iteF (h2 rfl)
theorem r_iteNT {A B : Prop} (h : B) : if (!true) = true then A else B := by rw [if_neg (by decide)]; exact h
theorem r_iteNF {A B : Prop} (h : A) : if (!false) = true then A else B := by rw [if_pos (by decide)]; exact h
theorem r_iteN {b : Bool} {A B : Prop} (h1 : b = false → A) (h2 : b = true → B) : if (!b) = true then A else B := by
  cases b with
  | true => exact r_iteNT (h2 rfl)
  | false => exact r_iteNF (h1 rfl)
theorem r_cb {r : List V → Hp → VK → Prop} {t : TA} (h : t σ H fun vs H1 => r vs H1 Q) : tCB r t σ H Q := h
theorem r_call {sp : Sp} {dvs : List V} {E : XK} {t : TA} (h : t σ H fun vs H1 => sp (vs ++ dvs) H1 Q E) : tCall sp dvs E t σ H Q := h
theorem r_nil {Q : List V → Hp → Prop} (h : Q [] H) : tNil σ H Q := h
theorem r_cons {tr : TA} {Q : List V → Hp → Prop} (h : ta σ H fun x H1 => tr σ H1 fun xs H2 => Q (x :: xs) H2) : tCons ta tr σ H Q := h
theorem r_lst {t : TA} (h : t σ H fun xs H1 => xs.length ≤ sizeLine ∧ ∀ p, H1 p = none → Q (.ref p) (upd H1 p (.lst xs))) : tLst t σ H Q := h
theorem r_tup {t : TA} (h : t σ H fun xs H1 => xs.length ≤ sizeLine ∧ ∀ p, H1 p = none → Q (.ref p) (upd H1 p (.tup xs))) : tTup t σ H Q := h
theorem r_new {n m : Nat} {P : Prop} (h : n ≤ m) (q : P) : n ≤ m ∧ P := ⟨h, q⟩
theorem r_ixL {p : Addr} {xs : List V} {i : Int} {v : V} (hp : SqL K H p xs) (hi : atI xs i = some v) (h : Q v H) : rIxL K (.ref p) (.int i) H Q := ⟨p, xs, i, v, rfl, rfl, hp, hi, h⟩
theorem r_ixT {p : Addr} {xs : List V} {i : Int} {v : V} (hp : SqT K H p xs) (hi : atI xs i = some v) (h : Q v H) : rIxT K (.ref p) (.int i) H Q := ⟨p, xs, i, v, rfl, rfl, hp, hi, h⟩
theorem r_gsub {ti : TE} {t : TSet} {Q : L2.St → Hp → Prop} (h : ta σ H fun o H1 => ti σ H1 fun i H2 => t o i v H2 fun H3 => Q σ H3) : gSub ta ti t v σ H Q := h
theorem r_setL {p : Addr} {xs : List V} {k : Int} {j : Nat} {Q : Hp → Prop} (hp : H p = some (.lst xs)) (hk : ixN xs.length k = some j) (h : Q (upd H p (.lst (xs.set j v)))) : rSetL (.ref p) (.int k) v H Q := ⟨p, xs, k, j, rfl, rfl, hp, hk, h⟩
theorem r_int1 {i : Int} (h : Q (.int i) H) : (fun (xs : List V) H (Q : VK) => (∃ i, xs = [V.int i] ∧ Q (V.int i) H) ∨ ∃ k, xs = [V.bl k] ∧ Q (V.int (if k = true then 1 else 0)) H) [.int i] H Q := .inl ⟨i, rfl, h⟩
theorem r_int1' {i : Int} (h : Q (.int i) H) : (∃ j, [V.int i] = [V.int j] ∧ Q (V.int j) H) ∨ ∃ k, [V.int i] = [V.bl k] ∧ Q (V.int (if k = true then 1 else 0)) H := .inl ⟨i, rfl, h⟩
/-! ### heaps -/
theorem upd_old {p a : Addr} {o x : HO} (hp : H p = none) (ha : H a = some x) : upd H p o a = some x := by rw [upd_ne (ne_of_none ha hp)]; exact ha
theorem upd_diff {p a : Addr} {o x : HO} (n : a ≠ p) (ha : H a = some x) : upd H p o a = some x := by rw [upd_ne n]; exact ha
/-- what is not at a stays -/
def But (a : Addr) (H H' : Hp) : Prop := ∀ b o, b ≠ a → H b = some o → H' b = some o
end
end Th
namespace Th
open PySem PySem.Spec PyProof.Rows L2
/-! ### calls of own defs, by one fact each -/
structure CalT (P : Program) (w : World) (K : PySem.W.Frag) (mg : Str → Option Value) (base : Heap) (k : Nat) (x : Str) (sp : Sp) : Prop where
  ex : ∃ (f : Addr) (fd : FuncData) (ps : List Str), FnOk P w K mg base CX0 k f fd ps sp ∧ mg x = some (.ref f) ∧ PySem.W.keepIn K (.ref f) = true ∧ Binds K fd ps []
structure CalK (P : Program) (w : World) (K : PySem.W.Frag) (mg : Str → Option Value) (base : Heap) (k : Nat) (x : Str) (ks : List Str) (sp : Sp) : Prop where
  ex : ∃ (f : Addr) (fd : FuncData) (ps : List Str), FnOk P w K mg base CX0 k f fd ps sp ∧ mg x = some (.ref f) ∧ PySem.W.keepIn K (.ref f) = true ∧ KBn K fd ps 0 ks (fun us ws => us ++ ws) (fun us ws => us ++ ws)
section
variable {X : Cx} {j k : Nat} {x : Str} {sp : Sp} {e : Expr} {es : List Expr} {p pos : Pos} {t tk : TA} {ks : List Str} {kws : List Keyword}
theorem pe_cc (c : CalT X.prog X.w X.K X.mg X.base k x sp) (hr : Room j X.A) (hk : k ≤ j) (hg : Gl X x) (ha : PA X (e :: es) t) (hdb : (x == ("__debug__" : Str)) = false := by decide)
    (he : starEach (e :: es) X.env = (false, eval e X.env) :: starEach es X.env := by rfl) (hpl : (backTo pos (starEach es X.env)).any (·.1) = false := by rfl) : PE X (.Call (.Name x p) (e :: es) [] pos) (tCall sp [] E0 t) := by
  obtain ⟨f, fd, ps, F, hm, kp, b⟩ := c.ex
  exact pe_call F (hr.mono hk) hg hm kp b .nil pass0 ha hdb he hpl
theorem pe_cc0 (c : CalT X.prog X.w X.K X.mg X.base k x sp) (hr : Room j X.A) (hk : k ≤ j) (hg : Gl X x) (hdb : (x == ("__debug__" : Str)) = false := by decide) : PE X (.Call (.Name x p) [] [] pos) (tCall sp [] E0 tNil) := by
  obtain ⟨f, fd, ps, F, hm, kp, b⟩ := c.ex
  exact pe_call0 F (hr.mono hk) hg hm kp b .nil pass0 hdb
/-- f(k = v, ..) -/
theorem pe_ck0 (c : CalK X.prog X.w X.K X.mg X.base k x ks sp) (hr : Room j X.A) (hk : k ≤ j) (hg : Gl X x) (hkw : PK X kws tk)
    (hall : (backToKw pos (keywordEach kws X.env)).all (·.1.isSome) = true := by rfl) (hks : (backToKw pos (keywordEach kws X.env)).filterMap (·.1) = ks := by rfl) (hdb : (x == ("__debug__" : Str)) = false := by decide)
    (hpl : ((backTo pos (starEach [] X.env)).any (·.1) || (backToKw pos (keywordEach kws X.env)).any (·.1.isNone)) = false := by rfl) :
    PE X (.Call (.Name x p) [] kws pos) (tCallN 0 ks.length sp (fun us ws => us ++ ws) E0 tNil tk) := by
  obtain ⟨f, fd, ps, F, hm, kp, b⟩ := c.ex
  constructor
  intro pins s σ H Q I h
  refine wpAny_Call_Name_kw (ld_glob I hg hm ?_ hdb)
  refine PySem.W.callWith_KW0 (h₀ := X.base) I.ok.mod.kin kp hall (thn (hkw.run pos pins s σ H _ I h) ?_) hpl
  rintro ws s2 ⟨zs, H2, I2, rz, l1, l2, q2⟩
  refine ⟨I2.kIn, ?_⟩
  rw [hks]
  exact run_fnN (us := []) (vs := []) F (hr.mono hk) b pass0 I2 .nil rz rfl l2 q2
end
section
variable {K : PySem.W.Frag} {σ : L2.St} {H : Hp} {Q : VK}
theorem r_callN {n m : Nat} {sp : Sp} {gV : List V → List V → List V} {E : XK} {t tk : TA} (h : t σ H fun vs H1 => tk σ H1 fun zs H2 => vs.length = n ∧ zs.length = m ∧ sp (gV vs zs) H2 Q E) : tCallN n m sp gV E t tk σ H Q := h
/-! ### built-in functions, by names -/
def rInt1 : List V → Hp → VK → Prop := fun xs H Q => ∃ i, xs = [.int i] ∧ Q (.int i) H
theorem call_rInt1 {X : Cx} : CallR X (.type "int") rInt1 := fun pins s σ H xs us Q I r h => call_int1 pins s σ H xs us Q I r (.inl h)
theorem r_rInt1 {i : Int} (h : Q (.int i) H) : rInt1 [.int i] H Q := ⟨i, rfl, h⟩
def rIntB : List V → Hp → VK → Prop := fun xs H Q => ∃ i, xs = [.bl i] ∧ Q (.int (if i then 1 else 0)) H
theorem call_rIntB {X : Cx} : CallR X (.type "int") rIntB := fun pins s σ H xs us Q I r h => call_int1 pins s σ H xs us Q I r (.inr h)
theorem r_rIntB {i : Bool} (h : Q (.int (if i then 1 else 0)) H) : rIntB [.bl i] H Q := ⟨i, rfl, h⟩
def rAbs : List V → Hp → VK → Prop := fun xs H Q => ∃ i, xs = [.int i] ∧ Q (.int (if i < 0 then -i else i)) H
theorem call_rAbs {X : Cx} : CallR X (.builtin "abs") rAbs := call_abs
theorem r_rAbs {i : Int} (h : Q (.int (if i < 0 then -i else i)) H) : rAbs [.int i] H Q := ⟨i, rfl, h⟩
def rMin2 : List V → Hp → VK → Prop := fun xs H Q => ∃ i j, xs = [.int i, .int j] ∧ Q (.int (if j < i then j else i)) H
theorem call_rMin2 {X : Cx} (hc : X.calm = true := by rfl) : CallR X (.builtin "min") rMin2 := call_min2 hc
theorem r_rMin2 {i j : Int} (h : Q (.int (if j < i then j else i)) H) : rMin2 [.int i, .int j] H Q := ⟨i, j, rfl, h⟩
def rMax2 : List V → Hp → VK → Prop := fun xs H Q => ∃ i j, xs = [.int i, .int j] ∧ Q (.int (if j > i then j else i)) H
theorem call_rMax2 {X : Cx} (hc : X.calm = true := by rfl) : CallR X (.builtin "max") rMax2 := call_max2 hc
theorem r_rMax2 {i j : Int} (h : Q (.int (if j > i then j else i)) H) : rMax2 [.int i, .int j] H Q := ⟨i, j, rfl, h⟩
def rLenQ (K : PySem.W.Frag) : List V → Hp → VK → Prop := fun xs H Q => ∃ p ys, xs = [.ref p] ∧ (SqL K H p ys ∨ SqT K H p ys) ∧ Q (.int ys.length) H
theorem call_rLenQ {X : Cx} : CallR X (.builtin "len") (rLenQ X.K) := call_len_seq
theorem r_rLenQ {p : Addr} {ys : List V} (hp : SqL K H p ys ∨ SqT K H p ys) (h : Q (.int ys.length) H) : rLenQ K [.ref p] H Q := ⟨p, ys, rfl, hp, h⟩
def rLenZ : List V → Hp → VK → Prop := fun xs H Q => ∃ z, xs = [.str z] ∧ z.length ≤ sizeLine ∧ Q (.int z.length) H
theorem call_rLenZ {X : Cx} : CallR X (.builtin "len") rLenZ := call_len_str
theorem r_rLenZ {z : Str} (hz : z.length ≤ sizeLine) (h : Q (.int z.length) H) : rLenZ [.str z] H Q := ⟨z, rfl, hz, h⟩
def rAddZ : R2 := fun x y H Q => ∃ i j, x = .str i ∧ y = .str j ∧ i.length + j.length ≤ sizeLine ∧ Q (.str (i ++ j)) H
theorem op_addZ {X : Cx} : OpR X (binaryOp .Add) rAddZ := op_add_str
theorem r_addZ {i j : Str} (hz : i.length + j.length ≤ sizeLine) (h : Q (.str (i ++ j)) H) : rAddZ (.str i) (.str j) H Q := ⟨i, j, rfl, rfl, hz, h⟩
def rInC : R2 := fun x y H Q => ∃ (c : Nat) (z : Str), x = .str ⟨#[c]⟩ ∧ y = .str z ∧ Q (.bl (decide (c ∈ z.cps.toList))) H
theorem op_inSign {X : Cx} : OpR X (compareOp .In) rInC := op_in_sign
theorem r_inC {c : Nat} {z : Str} (h : Q (.bl (decide (c ∈ z.cps.toList))) H) : rInC (.str ⟨#[c]⟩) (.str z) H Q := ⟨c, z, rfl, rfl, h⟩
theorem r_eq {x y : V} (hs : scal x y = true) (h : Q (.bl (decide (x = y))) H) : rEq x y H Q := ⟨hs, h⟩
theorem r_ne {x y : V} (hs : scal x y = true) (h : Q (.bl (!decide (x = y))) H) : rNe x y H Q := ⟨hs, h⟩
theorem r_cat {l b : Addr} {xs zs : List V} (hl : H l = some (.lst xs)) (hb : H b = some (.lst zs)) (hz : xs.length + zs.length ≤ sizeLine) (h : ∀ p, H p = none → Q (.ref p) (upd H p (.lst (xs ++ zs)))) : rCat (.ref l) (.ref b) H Q := ⟨l, b, xs, zs, rfl, rfl, hl, hb, hz, h⟩
theorem r_rep {l : Addr} {k : Int} {xs : List V} (hl : H l = some (.lst xs)) (h0 : -(2 ^ 63) ≤ k) (h1 : k < 2 ^ 63) (hz : xs.length * k.toNat ≤ sizeLine) (h : ∀ p, H p = none → Q (.ref p) (upd H p (.lst (List.replicate k.toNat xs).flatten))) : rRep (.ref l) (.int k) H Q := ⟨l, k, xs, rfl, rfl, hl, h0, h1, hz, h⟩
theorem r_append {l : Addr} {xs : List V} {y : V} (hl : H l = some (.lst xs)) (hz : xs.length < sizeLine) (h : Q .non (upd H l (.lst (xs ++ [y])))) : rAppend (.ref l) [y] H Q := ⟨l, xs, y, rfl, rfl, hl, hz, h⟩
theorem r_bm {T : String} {r : V → List V → Hp → VK → Prop} {to : TE} {t : TA} (h : to σ H fun x H1 => tyV K T x H1 ∧ t σ H1 fun xs H2 => r x xs H2 Q) : tBM K T r to t σ H Q := h
theorem r_tyL {p : Addr} {xs : List V} {P : Prop} (hp : H p = some (.lst xs)) (h : P) : tyV K "list" (.ref p) H ∧ P := ⟨.inl ⟨rfl, _, SqL.of hp⟩, h⟩
theorem r_all {a : Addr} {bs : List Bool} (hp : SqL K H a (bs.map V.bl)) (h : Q (.bl (bs.all id)) H) : rAll K [.ref a] H Q := ⟨a, bs, rfl, hp, h⟩
theorem r_any {a : Addr} {bs : List Bool} (hp : SqL K H a (bs.map V.bl)) (h : Q (.bl (bs.any id)) H) : rAny K [.ref a] H Q := ⟨a, bs, rfl, hp, h⟩
theorem call_all {X : Cx} (hc : X.calm = true := by rfl) : CallR X (.builtin "all") (rAll X.K) := cr_all hc
theorem call_any {X : Cx} (hc : X.calm = true := by rfl) : CallR X (.builtin "any") (rAny X.K) := cr_any hc
end
end Th
namespace Th
open PySem PySem.Spec PyProof.Rows L2
/-! ### a def that may lean on it that nothing is being shown (repr of a list, a tuple, a dict) -/
structure FnG (P : Program) (w : World) (K : PySem.W.Frag) (mg : Str → Option Value) (base : Heap) (k : Nat) (f : Addr) (fd : FuncData) (ps : List Str) (sp : Sp) : Prop where
  len : ∀ vs H Q E, sp vs H Q E → vs.length = ps.length
  run : ∀ (A : Around) (outer : List Env) (s : Shared) (H : Hp) (args : Args) (us : List Value) (vs : List V) (Q : VK) (E : XK), Room k A → A.guards = some [] →
    Env0 P w K mg base A outer s H → BindsTo s fd args (ps.zip us) → Vals vs us → sp vs H Q E → codeAny (model P w) A (.call (.ref f) args) (CR CX0 outer P w H s Q E) s
section
variable {P : Program} {w : World} {K : PySem.W.Frag} {mg : Str → Option Value} {base : Heap}
theorem Fun.okG {x qual : Str} {st : Stmt} {f : Addr} {fd : FuncData} {N ps : List Str} {k : Nat} {sp : Sp} (F : Fun K x qual st f fd) (S : FnScope N ps (defScope st)) (hlen : ∀ vs H Q E, sp vs H Q E → vs.length = ps.length)
    (body : ∀ (cdv : Value) (A : Around) (outer : List Env) (s : Shared) (H : Hp) (vs : List V) (Q : VK) (E : XK), Room k (A.deeper (envOfC qual (defScope st) s.heap.objs.size f cdv)) → A.guards = some [] → sp vs H Q E →
      ∃ t, PSs (cxOf CX0 P w K mg base N qual (defScope st) f cdv A outer s H E).nox (defBody st) t ∧ t { nx := fun _ H' => Q .non H', rt := Q } (start N vs) H) : FnG P w K mg base (k + 1) f fd ps sp := by
  obtain ⟨oc, od, kV, doc, pm, an, cdv, ct, osl, e, lk, hcd⟩ := F.ex
  subst e
  constructor
  · exact hlen
  · intro A outer s H args us vs Q E room gd env0 bnd rel wish
    have stands : ∀ b o, base.get? b = some o → s.heap.get? b = some o := fun b o e => (env0.bs b o e).1
    have kin := env0.mod.kin.keeps stands
    have nol := env0.mod.nolimit.keeps stands
    apply codeAny_call_function room.depth (kin _ _ lk) rfl S.co S.gen rfl (PySem.W.codeRec_of kin hcd)
    refine bnd _ _ _ _ (wpAny_newFunctionEnv_cells S.kind ?kinds ?go)
    case kinds =>
      rintro ⟨n, v⟩ hy
      cases S.par n (List.of_mem_zip hy).1 with
      | inl q => exact Or.inl q
      | inr q => exact Or.inr ⟨q, PySem.W.cellsFrom_some _ _ _ (Or.inl q)⟩
    case go =>
      intro env he s1 inside
      subst he
      refine ⟨nol.keeps inside.toInCall.keep, codeAny_func ?_⟩
      obtain ⟨t, derived, wished⟩ := body cdv A outer s H vs Q E (room.deeper _) gd wish
      have J := inv_start (CX := CX0) (E := E) S room.hd env0 (hlen _ _ _ _ wish) rel inside
      refine wpAny_mono (derived.nox.run [] s1 _ H _ J wished) ?_ (fun e s' z => z)
      intro fl s' z
      cases fl with
      | next =>
        obtain ⟨σ', H', J', q⟩ := z
        exact ⟨V.non, H', J'.os, J'.bare, J'.base, J'.hok, rfl, q⟩
      | ret u =>
        obtain ⟨v, σ', H', J', rv, q⟩ := z
        exact ⟨v, H', J'.os, J'.bare, J'.base, J'.hok, rv, q⟩
      | brk =>
        obtain ⟨_, _, _, q⟩ := z
        exact q.elim
      | cont =>
        obtain ⟨_, _, _, q⟩ := z
        exact q.elim
/-- the law's own call -/
theorem lawG {k : Nat} {mb : Str → Option Value} {fa a : Addr} {fd : FuncData} {x : Str} {sp : Sp} {s₁ : Shared} {vs : List Value} {ns : List Int}
    (KX : K.In s₁.heap) (hns : s₁.heap.Ns mainGlobals mg) (hb : s₁.heap.Ns builtinsNs mb) (hbb : ∀ x : Str, x ≠ "__name__" → mb x = bootBuiltins x) (hlim : s₁.heap.NoLimit) (hg : s₁.gens = #[])
    (ha : s₁.heap.get? a = some { cls := .type "list", data := .seq vs.toArray }) (hi : IntsAre vs ns) (hl : ns.length ≤ sizeLine) (room : Room k callerA)
    (F : ∀ base : Heap, K.In base → base.Ns mainGlobals mg → FnG P w K mg base k fa fd [x] sp) (hbind : ∀ (s : Shared) (u : Value), BindsTo s fd ⟨[u], []⟩ [(x, u)])
    (hsp : ∀ H : Hp, Only H → SqL K H a (ns.map V.int) → sp [.ref a] H (fun v _ => v = .bl true) fun _ _ _ => False) :
    codeAny (model P w) callerA (.call (.ref fa) ⟨[.ref a], []⟩) (fun r s' => r = .ok (.ret (.bool true)) ∧ OldK s₁.heap s'.heap ∧ s'.os = s₁.os ∧ AllBare s'.gens) s₁ := by
  have rv : Vals (ns.map V.int) vs := vals_ints hi
  have hlen : vs.length = ns.length := by have := rv.length; rw [List.length_map] at this; omega
  have main : ∀ H : Hp, Only H → SqL K H a (ns.map V.int) → HOk P w H s₁.heap → (∀ b u, H b = some u → b = a) → (∀ u, H a = some u → K.lookup a = none) →
      codeAny (model P w) callerA (.call (.ref fa) ⟨[.ref a], []⟩) (fun r s' => r = .ok (.ret (.bool true)) ∧ OldK s₁.heap s'.heap ∧ s'.os = s₁.os ∧ AllBare s'.gens) s₁ := by
    intro H only sq hok onlyA notK
    have dictFree : ∀ (b : Addr) (o : Obj) (es : Array DictEntry) (ep : Nat), s₁.heap.get? b = some o → o.data = .dict es ep → H b = none := by
      intro b o es ep ho hd
      cases hq : H b with
      | none => rfl
      | some u =>
        rw [onlyA b u hq, ha] at ho
        cases ho
        exact nomatch hd
    have nsB : ∀ {b : Addr} {m : Str → Option Value}, s₁.heap.Ns b m → (hidT s₁.heap H).Ns b m := by
      rintro b m ⟨o, es, ep, ho, hd, rest⟩
      exact ⟨o, es, ep, hidT_get ho (dictFree b o es ep ho hd), hd, rest⟩
    have kB : K.In (hidT s₁.heap H) := by
      intro b o ho
      refine hidT_get (KX b o ho) ?_
      cases hq : H b with
      | none => rfl
      | some u =>
        have hba := onlyA b u hq
        rw [hba] at ho hq
        rw [notK u hq] at ho
        cases ho
    obtain ⟨mc, lim1, lim2⟩ := hlim
    have modl : Mod K mg (hidT s₁.heap H) := ⟨kB, nsB hns, ⟨mb, nsB hb, hbb⟩, ⟨mc, nsB lim1, lim2⟩⟩
    have noFr : ∀ b ∈ frs [], H b = none := fun b z => by cases z
    have E0' : Env0 P w K mg (hidT s₁.heap H) callerA [] s₁ H := ⟨rfl, modl, fun b o e => of_hidT e, by rw [hidT_size]; exact Nat.le_refl _, trivial, noFr, hok, .of_eq hg⟩
    have ran := (F _ kB (nsB hns)).run callerA [] s₁ H ⟨[.ref a], []⟩ [.ref a] [.ref a] _ _ room rfl E0' (hbind s₁ (.ref a)) (.cons rfl .nil) (hsp H only sq)
    refine codeAny_mono ran ?_
    intro r s' z
    cases r with
    | error e => exact False.elim z
    | ok fl =>
      cases fl with
      | ret u =>
        obtain ⟨v, H', os, bare, un, hok', rel, isT⟩ := z
        have isT' : v = .bl true := isT
        rw [isT'] at rel
        have hu : u = Value.bool true := rel
        refine ⟨by rw [hu], OldK.of_keep ?_, os, bare⟩
        intro b o ho
        cases hq : H b with
        | none => exact un.keep b o ho hq (fun z => by cases z) (fun z => by cases z)
        | some u2 =>
          cases only b with
          | inl z => rw [hq] at z; cases z
          | inr z =>
            obtain ⟨ob, xs, z⟩ := z
            have ⟨g1, _⟩ := hok b _ z
            have ⟨g2, _⟩ := hok' b _ (un.frzs b ob _ z)
            rw [ho] at g1
            cases g1
            exact g2
      | next => exact False.elim z
      | brk => exact False.elim z
      | cont => exact False.elim z
  by_cases hk : K.lookup a = none
  · let script : HO := .frz { cls := .type "list", data := .seq vs.toArray } (.lst (ns.map V.int))
    have atA : ∀ b u, (if b = a then some script else none) = some u → b = a ∧ u = script := by
      intro b u z
      by_cases e : b = a
      · rw [if_pos e] at z; cases z; exact ⟨e, rfl⟩
      · rw [if_neg e] at z; cases z
    refine main (fun b => if b = a then some script else none) ?_ (.inl (.inr ⟨_, if_pos rfl⟩)) ?_ (fun b u z => (atA b u z).1) (fun _ _ => hk)
    · intro b
      by_cases e : b = a
      · exact .inr ⟨_, _, if_pos e⟩
      · exact .inl (if_neg e)
    · intro b u z
      obtain ⟨e1, e2⟩ := atA b u z
      rw [e1, e2]
      exact ⟨ha, by rw [List.length_map]; exact hl, vs, _, rv, ha⟩
  · obtain ⟨o, ho⟩ : ∃ o, K.lookup a = some o := by
      cases q : K.lookup a with
      | none => exact absurd q hk
      | some o => exact ⟨o, rfl⟩
    have same := KX a o ho
    rw [ha] at same
    cases same
    exact main (fun _ => none) (fun _ => .inl rfl) (.inr ⟨_, vs.toArray, _, ho, rfl, rfl, rfl, by rw [List.size_toArray, hlen]; exact hl, rv⟩) (fun b u z => nomatch z) (fun b u z => nomatch z) (fun u z => nomatch z)
end
/-- the goal that k_head leaves, from the law's promise -/
theorem walkG {l : PySem.W.OpenLaw} {n k : Nat} {q : Program} {loose : List Str} {XP : (Str → Option Value) → Heap → Prop} {YP : World → Heap → Prop} {d : DefRec} {K : Params → PySem.W.Frag} {sp : World → Sp} {x : Str}
    (hn : l.most = some n) (hn2 : n ≤ sizeLine) (hdf : d.params.defaults = []) (room : Room k callerA) (hY : ∀ (w : World) (h : Heap), YP w h → (K w.params).In h)
    (F : ∀ (w : World) (mg : Str → Option Value) (fa : Addr) (h : Heap), (K w.params).In h → h.Ns mainGlobals mg → mg d.name = some (.ref fa) →
      ∃ fd : FuncData, (∀ (s : Shared) (u : Value), BindsTo s fd ⟨[u], []⟩ [(x, u)]) ∧ ∀ base : Heap, (K w.params).In base → base.Ns mainGlobals mg → FnG l.prog w (K w.params) mg base k fa fd [x] (sp w))
    (hsp : ∀ (w : World) (H : Hp) (a : Addr) (ns : List Int), ns.length ≤ n → Only H → SqL (K w.params) H a (ns.map V.int) → sp w [.ref a] H (fun v _ => v = .bl true) fun _ _ _ => False) :
    PySem.W.WalkO q loose XP YP l.row.toRowW d [] (fun f vs => PySem.call f vs) := by
  apply Att.attach_call hn hdf
  intro w s₀ s₁ mg mb fa o pm cd doc a vs ns G Y ho hd hcd hmg hobj hints hlen hg
  obtain ⟨fd, bnd, every⟩ := F w mg fa _ (hY w _ Y) G.T.g hmg
  exact lawG (hY w _ Y) G.T.g G.T.b G.T.builtins G.T.nolimit hg hobj hints (Nat.le_trans hlen hn2) room every bnd (fun H only sq => hsp w H a ns hlen only sq)
/-! ### repr of data -/
def rRepr (K : PySem.W.Frag) : List V → Hp → VK → Prop := fun xs H Q => ∃ a d, xs = [.ref a] ∧ Dp K H (.ref a) d ∧ d.showable = true ∧ d.hasDict = false ∧ d.depth < 60 ∧ d.shown.length ≤ sizeLine ∧ Q (.str d.shown) H
theorem call_rRepr {X : Cx} (gd : X.A.guards = some []) (hu : X.A.units + 64 < cLine) : CallR X (.builtin "repr") (rRepr X.K) := by
  intro pins s σ H xs us Q I r h
  obtain ⟨a, d, rfl, hd, h1, h2, h3, h4, q⟩ := h
  obtain ⟨u, rfl, rx⟩ := vals1 r
  obtain ⟨as, rd⟩ := Dp.reads I d _ u hd rx
  have hu' : u = Value.ref a := rx
  subst hu'
  refine repr_of_reads' rd h1 (fun z => by rw [h2] at z; cases z) gd (by omega) (fun b o e => e) (fun h' t tk kept => ?_) h4
  exact ⟨.str d.shown, H, I.kept kept, ⟨_, rfl⟩, q⟩
theorem r_repr {K : PySem.W.Frag} {H : Hp} {Q : VK} {a : Addr} {d : PyData} (hd : Dp K H (.ref a) d) (h1 : d.showable = true) (h2 : d.hasDict = false) (h3 : d.depth < 60) (h4 : d.shown.length ≤ sizeLine) (h : Q (.str d.shown) H) : rRepr K [.ref a] H Q := ⟨a, d, rfl, hd, h1, h2, h3, h4, h⟩
/-! ### a text times an int -/
theorem fold_rep (a : Array Nat) : ∀ (n : Nat) (acc : Array Nat), ((List.replicate n a).foldl (· ++ ·) acc).toList = acc.toList ++ (List.replicate n a.toList).flatten
  | 0, acc => by simp
  | n + 1, acc => by
    rw [List.replicate_succ, List.foldl_cons, fold_rep a n, List.replicate_succ, List.flatten_cons, Array.toList_append, List.append_assoc]
theorem fold_rep_size (a : Array Nat) (n : Nat) : ((List.replicate n a).foldl (· ++ ·) #[]).size = n * a.size := by
  have h := congrArg List.length (fold_rep a n #[])
  simpa using h
def repZ (z : Str) (k : Int) : Str := if k < 1 then Str.empty else if (k == 1 || z.length == 0) = true then z else ⟨(List.replicate k.toNat z.cps).foldl (· ++ ·) #[]⟩
def rMulZ : R2 := fun x y H Q => ∃ z k, x = .str z ∧ y = .int k ∧ z.length ≤ 1000 ∧ -(2 ^ 62) ≤ k ∧ k ≤ 5000 ∧ Q (.str (repZ z k)) H
theorem op_mulS {X : Cx} : OpR X (binaryOp .Mult) rMulZ := by
  intro pins s σ H x y v u Q I rx ry h
  obtain ⟨z, k, rfl, rfl, hz, h0, h1, q⟩ := h
  obtain ⟨t, rfl⟩ := rx
  obtain ⟨t', rfl⟩ := ry
  have hzi : (z.length : Int) ≤ 1000 := by omega
  refine PySem.P.mul_str ?_ (fun hk _ => ?_) (fun hk _ => ?_) ?_
  · rw [decide_eq_false (by omega : ¬ k < -(2 ^ 63 : Int)), decide_eq_false (by omega : ¬ k ≥ 2 ^ 63)]; rfl
  · intro hbig
    have hd : (5000 : Int) ≤ (2 ^ 63 - 1) / k := by
      rw [Int.le_ediv_iff_mul_le (by omega)]
      have : (5000 : Int) * k ≤ 5000 * 5000 := Int.mul_le_mul_of_nonneg_left h1 (by decide)
      omega
    omega
  · unfold Builtin.Str.tooLong
    rw [decide_eq_false]
    have hk5 : k.toNat ≤ 5000 := by omega
    have := Nat.mul_le_mul hz hk5
    rw [sizeLine_eq]
    omega
  · unfold repZ at q
    by_cases c1 : k < 1
    · rw [if_pos c1] at q ⊢
      exact ⟨by decide, ⟨.str _, H, I.tok _, ⟨_, rfl⟩, q⟩⟩
    · rw [if_neg c1] at q ⊢
      by_cases c2 : (k == 1 || z.length == 0) = true
      · rw [if_pos c2] at q ⊢
        exact ⟨.str z, H, I, ⟨t, rfl⟩, q⟩
      · rw [if_neg c2] at q ⊢
        refine ⟨?_, ⟨.str _, H, I.tok _, ⟨_, rfl⟩, q⟩⟩
        show ((List.replicate k.toNat z.cps).foldl (· ++ ·) #[]).size ≤ sizeLine
        rw [fold_rep_size]
        have hk5 : k.toNat ≤ 5000 := by omega
        have hz' : z.cps.size ≤ 1000 := hz
        have := Nat.mul_le_mul hk5 hz'
        rw [sizeLine_eq]
        omega
theorem repZ_list (z : Str) (k : Int) : (repZ z k).cps.toList = (List.replicate k.toNat z.cps.toList).flatten := by
  unfold repZ
  by_cases c1 : k < 1
  · rw [if_pos c1, show k.toNat = 0 by omega]; rfl
  · rw [if_neg c1]
    by_cases c2 : (k == 1 || z.length == 0) = true
    · rw [if_pos c2]
      simp only [Bool.or_eq_true, beq_iff_eq] at c2
      rcases c2 with c2 | c2
      · subst c2; simp
      · have e : z.cps.toList = [] := by
          have : z.cps.size = 0 := c2
          simpa using this
        rw [e]; simp
    · rw [if_neg c2]
      show ((List.replicate k.toNat z.cps).foldl (· ++ ·) #[]).toList = _
      rw [fold_rep]; rfl
theorem repZ_len (z : Str) (k : Int) : (repZ z k).length = k.toNat * z.length := by
  have h := congrArg List.length (repZ_list z k)
  simpa [Str.length] using h
theorem r_mulZ {H : Hp} {Q : VK} {z : Str} {k : Int} (hz : z.length ≤ 1000) (h0 : -(2 ^ 62) ≤ k) (h1 : k ≤ 5000) (h : Q (.str (repZ z k)) H) : rMulZ (.str z) (.int k) H Q := ⟨z, k, rfl, rfl, hz, h0, h1, h⟩
/-! ### comprehensions without a test, whose element only reads (and makes) -/
theorem same_new {H : Hp} {p : Addr} {o : HO} (h : H p = none) : Same H (upd H p o) := fun b u e => by rw [upd_ne (ne_of_none e h)]; exact e
theorem walk_strC {z : Str} : Walk (Its z) (z.cps.toList.map fun c => V.str ⟨#[c]⟩).length (fun _ => True) (YAt (z.cps.toList.map fun c => V.str ⟨#[c]⟩)) := by
  have e : (z.cps.toList.map fun c => V.str ⟨#[c]⟩).length = z.cps.size := by simp
  rw [e]
  refine walk_str.mono (fun _ h => h) ?_
  rintro i H x H' hi _ ⟨e1, c, hc, rfl⟩
  refine ⟨e1, ?_⟩
  rw [List.getElem?_map, Array.getElem?_toList, hc]
  rfl
theorem lc_map {α : Type} {J : It} {cs : List α} {enc f : α → V} {G : Hp → Prop} (w : Walk J (cs.map enc).length G (YAt (cs.map enc))) {j : Nat} {vs : List Nat} {σ : L2.St} {H1 : Hp} {D : Addr} {te : TE} {Qd : Hp → Prop}
    (hD : H1 D = none) (hz : cs.length < sizeLine) (hG : ∀ H', Same H1 H' → G H') (hw : ∀ x, wipe ((wipe σ vs).set j (some x)) vs = wipe σ vs)
    (he : ∀ c ∈ cs, ∀ H', Same H1 H' → ∀ Q : VK, (∀ H2, Same H' H2 → Q (f c) H2) → te ((wipe σ vs).set j (some (enc c))) H' Q)
    (hd : ∀ H', Same H1 H' → H' D = some (.lst (cs.map f)) → Qd H') :
    ∃ W : Nat → Nat → Hp → Prop, (∃ m, W 0 m (upd H1 D (.lst []))) ∧ ∀ i m H, W i m H →
      (J.stop i H ∧ Qd H) ∨ (J.go i H ∧ ∃ Nx : Hp → Prop, (∀ H', Nx H' → ∃ m', m' < m ∧ W (i + 1) m' H') ∧ ∀ x H', J.yld i H x H' → gName j x (wipe σ vs) H' fun σ2 H2 => wipe σ2 vs = wipe σ vs ∧ tYes σ2 H2 fun b H3 =>
        if b = true then te σ2 H3 fun y H4 => ∃ acc, H4 D = some (.lst acc) ∧ acc.length < sizeLine ∧ Nx (upd H4 D (.lst (acc ++ [y]))) else Nx H3) := by
  refine lc_it w (fun i H => Same H1 H ∧ H D = some (.lst ((cs.take i).map f))) ⟨same_new hD, by rw [upd_same]; rfl⟩ (fun i H _ p => hG H p.1) ?_ ?_
  · rintro i x H H' hi ⟨s1, hl⟩ ⟨rfl, hx⟩
    rw [List.length_map] at hi
    have hx' : x = enc cs[i] := by
      rw [List.getElem?_map, List.getElem?_eq_getElem hi] at hx
      exact (Option.some.inj hx).symm
    subst hx'
    refine ⟨hw _, ?_⟩
    unfold tYes
    dsimp only
    rw [if_pos rfl]
    refine he cs[i] (List.getElem_mem hi) H' s1 _ ?_
    intro H2 s2
    refine ⟨_, s2 _ _ hl, ?_, ?_, ?_⟩
    · rw [List.length_map, List.length_take]; omega
    · intro b o e
      have nb : b ≠ D := ne_of_none e hD
      rw [upd_ne nb]
      exact s2 _ _ (s1 _ _ e)
    · rw [upd_same, ← List.take_append_getElem hi, List.map_append]
      rfl
  · rintro H ⟨s1, hl⟩
    rw [List.length_map, List.take_length] at hl
    exact hd H s1 hl
/-! ### isinstance of values of built-in types -/
theorem r_isi {K : PySem.W.Frag} {H : Hp} {Q : VK} {x : V} {T n : String} (b : Bool) (ht : TyX K H x (.type T)) (hk : kitB T n = some b) (h : Q (.bl b) H) : rIsi K [x, .ty n] H Q := ⟨x, .ty n, .type T, .type n, b, rfl, .ty n, ht, kit_ty hk, h⟩
theorem r_isiT2 {K : PySem.W.Frag} {H : Hp} {Q : VK} {x : V} {T n m : String} {tp : Addr} (b c : Bool) (hT : H tp = some (.tup [.ty n, .ty m])) (ht : TyX K H x (.type T)) (hk : kitB T n = some b) (hk2 : kitB T m = some c) (h : Q (.bl (b || c)) H) : rIsiT K [x, .ref tp] H Q := by
  refine ⟨x, tp, _, .type T, [.type n, .type m], (b || c), rfl, hT, .cons (.ty n) (.cons (.ty m) .nil), ht, ?_, h⟩
  refine kitAny_cons (b := b) (kit_ty hk) (fun e => ?_) (fun e => by rw [e]; rfl)
  refine kitAny_cons (b := c) (kit_ty hk2) (fun e2 => ?_) (fun e2 => by rw [e2]; simp)
  rw [e, e2]
  exact kitAny_nil
theorem same_tyB {K : PySem.W.Frag} {H H' : Hp} {x : V} {t : Value} (e : Same H H') (h : TyX K H x t) : TyX K H' x t := by
  cases h with
  | base b =>
    cases b with
    | non => exact .base .non
    | bl y => exact .base (.bl y)
    | int y => exact .base (.int y)
    | str y => exact .base (.str y)
    | flt y => exact .base (.flt y)
    | lst z => exact .base (.lst (e _ _ z))
    | frz z => exact .base (.frz (e _ _ z))
    | tup z => exact .base (.tup (e _ _ z))
    | dK z => exact .base (.dK (e _ _ z))
    | dT z => exact .base (.dT (e _ _ z))
    | ins z cl ha hn htk hm => exact .base (.ins (e _ _ z) cl ha hn htk hm)
  | byt y => exact .byt y
  | set z => exact .set (e _ _ z)
  | kList z c => exact .kList z c
  | kTuple z c => exact .kTuple z c
  | kDict z c => exact .kDict z c
  | fTuple z => exact .fTuple (e _ _ z)
  | fDict z => exact .fDict (e _ _ z)
theorem r_r1 {H : Hp} {Q : VK} {k : V → Hp → VK → Prop} {x : V} (h : k x H Q) : r1 k [x] H Q := h
theorem r_bytesL {K : PySem.W.Frag} {H : Hp} {Q : VK} {p : Addr} {ns : List Int} (hp : SqL K H p (ns.map V.int)) (hn : ∀ n ∈ ns, 0 ≤ n ∧ n < 256) (h : Q (.byt (byteArr ns)) H) : kByts K (.ref p) H Q := .inr ⟨p, ns, rfl, hp, hn, h⟩
/-! ### walks -/
theorem r_lc {wi : TI} {g : TG} {tt : TT} {te : TE} {vs : List Nat} {σ : L2.St} {H : Hp} {Q : VK} (h : wi σ H fun J H1 => ∀ D, H1 D = none → ∃ W : Nat → Nat → Hp → Prop, (∃ m, W 0 m (upd H1 D (.lst []))) ∧ ∀ i m H, W i m H →
  (J.stop i H ∧ Q (.ref D) H) ∨ (J.go i H ∧ ∃ Nx : Hp → Prop, (∀ H', Nx H' → ∃ m', m' < m ∧ W (i + 1) m' H') ∧ ∀ x H', J.yld i H x H' → g x (wipe σ vs) H' fun σ2 H2 => wipe σ2 vs = wipe σ vs ∧ tt σ2 H2 fun b H3 =>
    if b = true then te σ2 H3 fun y H4 => ∃ acc, H4 D = some (.lst acc) ∧ acc.length < sizeLine ∧ Nx (upd H4 D (.lst (acc ++ [y]))) else Nx H3)) : tLc wi g tt te vs σ H Q := h
theorem r_for {wi : TI} {g : TG} {tb : TS} {D : Ends} {σ : L2.St} {H : Hp} (h : wi σ H fun J H1 => ∃ W : Nat → Nat → L2.St → Hp → Prop, (∃ m, W 0 m σ H1) ∧ ∀ i m σ H, W i m σ H →
  (J.stop i H ∧ D.nx σ H) ∨ (J.go i H ∧ ∃ N : L2.St → Hp → Prop, (∀ σ' H', N σ' H' → ∃ m', m' < m ∧ W (i + 1) m' σ' H') ∧ ∀ x H', J.yld i H x H' → g x σ H' fun σ2 H2 => tb { D with nx := N, ct := N, bk := D.nx } σ2 H2)) : tFor wi g tb D σ H := h
theorem r_iStr {te : TE} {σ : L2.St} {H : Hp} {R : It → Hp → Prop} (h : te σ H fun v H1 => ∃ x, v = .str x ∧ R (Its x) H1) : iStr te σ H R := h
theorem r_strE {z : Str} {P : Str → Prop} (h : P z) : ∃ x, V.str z = .str x ∧ P x := ⟨z, rfl, h⟩
theorem r_iList {K : PySem.W.Frag} {tl : TE} {σ : L2.St} {H : Hp} {R : It → Hp → Prop} (h : tl σ H fun x H1 => ∃ a, x = .ref a ∧ (∃ xs, SqL K H1 a xs) ∧ R (Itl K a) H1) : iList K tl σ H R := h
theorem r_listE {K : PySem.W.Frag} {H : Hp} {a : Addr} {xs : List V} {P : Addr → Prop} (hp : SqL K H a xs) (h : P a) : ∃ b, V.ref a = .ref b ∧ (∃ xs, SqL K H b xs) ∧ P b := ⟨a, rfl, ⟨xs, hp⟩, h⟩
theorem r_iRng1 {ta : TA} {σ : L2.St} {H : Hp} {R : It → Hp → Prop} (h : ta σ H fun vs H1 => ∃ j : Int, vs = [.int j] ∧ -(2 ^ 62) ≤ j ∧ j < 2 ^ 62 ∧ R (Itr 0 j.toNat) H1) : iRng1 ta σ H R := h
theorem r_rngE {j : Int} {P : Int → Prop} (h0 : -(2 ^ 62) ≤ j) (h1 : j < 2 ^ 62) (h : P j) : ∃ i : Int, [V.int j] = [.int i] ∧ -(2 ^ 62) ≤ i ∧ i < 2 ^ 62 ∧ P i := ⟨j, rfl, h0, h1, h⟩
/-! ### texts cut at a sign; in a written tuple -/
def rSplit : V → List V → Hp → VK → Prop := fun x xs H Q => ∃ a b, x = .str a ∧ xs = [.str b] ∧ (b.length == 0) = false ∧ a.length + 2 ≤ sizeLine ∧ rNewStrs (Txt.split a b) H Q
theorem pe_splitN {X : Cx} {E : Expr} {to te : TE} (hst : PE X E (tM1 (fun x xs H Q => ∃ a b, x = .str a ∧ xs = [.str b] ∧ (b.length == 0) = false ∧ a.length + 2 ≤ sizeLine ∧ rNewStrs (Txt.split a b) H Q) to te)) : PE X E (tM1 rSplit to te) := hst
section
variable {K : PySem.W.Frag} {σ : L2.St} {H : Hp} {Q : VK}
theorem r_m1 {r : V → List V → Hp → VK → Prop} {to te : TE} (h : to σ H fun x H1 => (∃ a, x = .str a) ∧ te σ H1 fun y H2 => r x [y] H2 Q) : tM1 r to te σ H Q := h
theorem r_isZ {z : Str} {P : Prop} (h : P) : (∃ a, V.str z = .str a) ∧ P := ⟨⟨z, rfl⟩, h⟩
theorem r_split {a b : Str} (hb : (b.length == 0) = false) (ha : a.length + 2 ≤ sizeLine) (h : ∀ p, H p = none → Q (.ref p) (upd H p (.lst ((Txt.split a b).map V.str)))) : rSplit (.str a) [.str b] H Q := ⟨a, b, rfl, rfl, hb, ha, h⟩
theorem r_inT {p : Addr} {x : V} {xs : List V} (hp : SqT K H p xs) (hx : flatV x = true) (ha : xs.all flatV = true) (h : Q (.bl (inV x xs)) H) : rIn K false x (.ref p) H Q := ⟨p, xs, rfl, .inr hp, hx, ha, h⟩
theorem r_inL {p : Addr} {x : V} {xs : List V} (hp : SqL K H p xs) (hx : flatV x = true) (ha : xs.all flatV = true) (h : Q (.bl (inV x xs)) H) : rIn K false x (.ref p) H Q := ⟨p, xs, rfl, .inl hp, hx, ha, h⟩
theorem r_slS {z : Str} {lo hi : Option Int} (hz : z.length ≤ sizeLine) (h : Q (.str (cutS z lo hi)) H) : rSlS (.str z) lo hi H Q := ⟨z, rfl, hz, h⟩
theorem r_sl {r : V → Option Int → Option Int → Hp → VK → Prop} {te : TE} {tl th : TO} (h : te σ H fun x H1 => tl σ H1 fun l H2 => th σ H2 fun u H3 => r x l u H3 Q) : tSl r te tl th σ H Q := h
theorem r_noPart {Q : Option Int → Hp → Prop} (h : Q none H) : tNoPart σ H Q := h
theorem r_part {t : TE} {Q : Option Int → Hp → Prop} (h : t σ H fun x H1 => ∃ i, x = .int i ∧ Q (some i) H1) : tPart t σ H Q := h
theorem r_partE {i : Int} {P : Int → Prop} (h : P i) : ∃ j, V.int i = .int j ∧ P j := ⟨i, rfl, h⟩
theorem r_ixS {z : Str} {i : Int} {c : Nat} (hz : z.length ≤ sizeLine) (hc : atI z.cps.toList i = some c) (h : Q (.str ⟨#[c]⟩) H) : rIxS (.str z) (.int i) H Q := ⟨z, i, c, rfl, rfl, hz, hc, h⟩
end
/-! ### rules that lean on the written part, with it told -/
theorem op_inK {X : Cx} (K : PySem.W.Frag) (h : X.K = K := by rfl) : OpR X (compareOp .In) (rIn K false) := h ▸ op_in_seq
theorem op_notInK {X : Cx} (K : PySem.W.Frag) (h : X.K = K := by rfl) : OpR X (compareOp .NotIn) (rIn K true) := h ▸ op_notIn_seq
theorem ix_listK {X : Cx} (K : PySem.W.Frag) (h : X.K = K := by rfl) : IxR X (rIxL K) := h ▸ ix_list
theorem ix_tupK {X : Cx} (K : PySem.W.Frag) (h : X.K = K := by rfl) : IxR X (rIxT K) := h ▸ ix_tup
theorem call_lenK {X : Cx} (K : PySem.W.Frag) (h : X.K = K := by rfl) : CallR X (.builtin "len") (rLenQ K) := h ▸ call_rLenQ
theorem call_isiK1 {X : Cx} (K : PySem.W.Frag) (h : X.K = K := by rfl) : CallR X (.builtin "isinstance") (rIsi K) := h ▸ call_isi
theorem call_isiK2 {X : Cx} (K : PySem.W.Frag) (h : X.K = K := by rfl) : CallR X (.builtin "isinstance") (rIsiT K) := h ▸ call_isiT
theorem call_allK {X : Cx} (K : PySem.W.Frag) (hc : X.calm = true := by rfl) (h : X.K = K := by rfl) : CallR X (.builtin "all") (rAll K) := h ▸ cr_all hc
theorem call_anyK {X : Cx} (K : PySem.W.Frag) (hc : X.calm = true := by rfl) (h : X.K = K := by rfl) : CallR X (.builtin "any") (rAny K) := h ▸ cr_any hc
theorem call_reprK {X : Cx} (K : PySem.W.Frag) (gd : X.A.guards = some []) (hu : X.A.units + 64 < cLine) (h : X.K = K := by rfl) : CallR X (.builtin "repr") (rRepr K) := h ▸ call_rRepr gd hu
theorem sl_listK {X : Cx} (K : PySem.W.Frag) (h : X.K = K := by rfl) : SlR X (rSlL K) := h ▸ sl_list
/-! ### two ways to one int, joined -/
theorem r_joinI {σ σ' : L2.St} {H : Hp} {Q : VK} {ta tb : TE} {p : Prop} [Decidable p] (P : Int → Prop) (k : ∀ c : Int, P c → Q (.int c) H) (h1 : ∀ Q' : VK, (∀ c : Int, P c → Q' (.int c) H) → p → ta σ H Q') (h2 : ∀ Q' : VK, (∀ c : Int, P c → Q' (.int c) H) → ¬ p → tb σ' H Q') : if decide p = true then ta σ H Q else tb σ' H Q :=
  r_iteD (h1 Q k) (h2 Q k)
/-! ### several names at once; slices; whiles -/
section
variable {K : PySem.W.Frag} {σ : L2.St} {H : Hp} {Q : VK} {D : Ends}
theorem r_par {i j : Nat} {ta : TA} (h : ta σ H fun vs H1 => ∃ v w, vs = [v, w] ∧ D.nx ((σ.set i (some v)).set j (some w)) H1) : tPar i j ta D σ H := h
theorem r_pair {v w : V} {P : V → V → Prop} (h : P v w) : ∃ a b, [v, w] = [a, b] ∧ P a b := ⟨v, w, rfl, h⟩
theorem r_par3 {i j l : Nat} {ta : TA} (h : ta σ H fun vs H1 => ∃ u v w, vs = [u, v, w] ∧ D.nx (((σ.set i (some u)).set j (some v)).set l (some w)) H1) : tPar3 i j l ta D σ H := h
theorem r_trip {u v w : V} {P : V → V → V → Prop} (h : P u v w) : ∃ a b c, [u, v, w] = [a, b, c] ∧ P a b c := ⟨u, v, w, rfl, h⟩
theorem r_gtup {n : Nat} {t : TGs} {p : Addr} {xs : List V} {Q : L2.St → Hp → Prop} (hp : SqT K H p xs) (hn : xs.length = n) (h : t xs σ H Q) : gTup K n t (.ref p) σ H Q := ⟨p, xs, rfl, hp, hn, h⟩
theorem r_gcons {t : TG} {u : TGs} {v : V} {r : List V} {Q : L2.St → Hp → Prop} (h : t v σ H fun σ' H' => u r σ' H' Q) : gCons t u (v :: r) σ H Q := ⟨v, r, rfl, h⟩
theorem r_gnil {Q : L2.St → Hp → Prop} (h : Q σ H) : gNil [] σ H Q := ⟨rfl, h⟩
theorem r_slL {p : Addr} {xs : List V} {lo hi : Option Int} (hp : SqL K H p xs) (h : ∀ q, H q = none → Q (.ref q) (upd H q (.lst (cutV xs lo hi)))) : rSlL K (.ref p) lo hi H Q := ⟨p, xs, rfl, hp, h⟩
theorem r_iTup {tl : TE} {R : It → Hp → Prop} (h : tl σ H fun x H1 => ∃ a, x = .ref a ∧ (∃ xs, SqT K H1 a xs) ∧ R (Itt K a) H1) : iTup K tl σ H R := h
theorem r_tupE {a : Addr} {xs : List V} {P : Addr → Prop} (hp : SqT K H a xs) (h : P a) : ∃ b, V.ref a = .ref b ∧ (∃ xs, SqT K H b xs) ∧ P b := ⟨a, rfl, ⟨xs, hp⟩, h⟩
end
theorem walk_rangeN {n : Nat} : Walk (Itr 0 n) ((List.range n).map fun (i : Nat) => V.int (i : Int)).length (fun _ => True) (YAt ((List.range n).map fun (i : Nat) => V.int (i : Int))) := by
  have e : ((List.range n).map fun (i : Nat) => V.int (i : Int)).length = n := by simp
  rw [e]
  refine (walk_range (lo := 0) (n := n)).mono (fun _ h => h) ?_
  rintro i H x H' hi _ ⟨e1, e2⟩
  refine ⟨e1, ?_⟩
  rw [List.getElem?_map, List.getElem?_range hi, e2]
  simp
/-- a while by a number that falls; the body is read for any next N -/
theorem r_while {c : TT} {tb : TS} {D : Ends} {σ : L2.St} {H : Hp} (W : Nat → L2.St → Hp → Prop) (m0 : Nat) (h0 : W m0 σ H)
    (hs : ∀ m σ H, W m σ H → ∀ N : L2.St → Hp → Prop, (∀ m' σ' H', m' < m → W m' σ' H' → N σ' H') → c σ H fun b H1 => if b = true then tb { D with nx := N, ct := N, bk := D.nx } σ H1 else D.nx σ H1)
    (mono : ∀ σ H (Q Q' : Bool → Hp → Prop), (∀ b H1, Q b H1 → Q' b H1) → c σ H Q → c σ H Q') : tWhile c tb D σ H := by
  refine ⟨W, ⟨m0, h0⟩, fun m σ H w => ?_⟩
  refine mono σ H _ _ (fun b H1 q => ?_) (hs m σ H w (fun σ' H' => ∃ m', m' < m ∧ W m' σ' H') (fun m' σ' H' l w' => ⟨m', l, w'⟩))
  cases b with
  | true =>
    rw [if_pos rfl] at q ⊢
    exact ⟨_, fun σ' H' z => z, q⟩
  | false =>
    rw [if_neg Bool.false_ne_true] at q ⊢
    exact q
theorem pg_tupK {X : Cx} (K : PySem.W.Frag) {T : Expr} {n : Nat} {t : TGs} (h : PG X T (gTup X.K n t)) (hK : X.K = K := by rfl) : PG X T (gTup K n t) := hK ▸ h
def rLenY : List V → Hp → VK → Prop := fun xs H Q => ∃ y : Array UInt8, xs = [.byt y] ∧ y.size ≤ sizeLine ∧ Q (.int y.size) H
theorem call_rLenY {X : Cx} : CallR X (.builtin "len") rLenY := fun pins s σ H xs us Q I r h => by
  obtain ⟨y, rfl, hz, q⟩ := h
  exact call_len pins s σ H _ us Q I r ⟨.byt y, y.size, rfl, (show y.size ≤ sizeLine ∧ y.size = y.size from ⟨hz, rfl⟩), q⟩
theorem r_rLenY {H : Hp} {Q : VK} {y : Array UInt8} (hz : y.size ≤ sizeLine) (h : Q (.int y.size) H) : rLenY [.byt y] H Q := ⟨y, rfl, hz, h⟩
/-! ### defs with keyword-only parameters; attributes -/
theorem funD_ok0 {P : Program} {w : World} {K : PySem.W.Frag} {mg : Str → Option Value} {base : Heap} {x qual : Str} {params : Arguments} {body : List Stmt} {scope : Scope} {dvs : List V} {kws : List (Str × V)} {f : Addr} {fd : FuncData} {N ps : List Str} {k : Nat} {sp : Sp}
    (F : FunD K x qual params body scope dvs kws f fd) (S : FnScope N ps scope) (len : ∀ vs H Q E, sp vs H Q E → vs.length = ps.length)
    (told : ∀ (cdv : Value) (A : Around) (outer : List Env) (s : Shared) (H : Hp) (vs : List V) (Q : VK) (E : XK), Room k (A.deeper (envOfC qual scope s.heap.objs.size f cdv)) → sp vs H Q E →
      ∃ t, PSs (cxOf CX0 P w K mg base N qual scope f cdv A outer s H E).nox body t ∧ t { nx := fun _ H' => Q .non H', rt := Q } (start N vs) H) : FnOk P w K mg base CX0 (k + 1) f fd ps sp :=
  F.ok S len fun cdv A outer s H vs Q E hr h => by
    obtain ⟨t, d, q⟩ := told cdv A outer s H vs Q E hr h
    exact ⟨t, d.nox, q⟩
section
variable {K : PySem.W.Frag} {σ : L2.St} {H : Hp} {Q : VK} {D : Ends}
theorem r_sfld {ta tv : TE} {f : Str} (h : tv σ H fun y H1 => ta σ H1 fun x H2 => ∃ a C dx fs, x = .ref a ∧ H2 a = some (.ins C dx fs) ∧ Cls K C ∧ NoAttr K C f ∧ fs.length < 1000 ∧ D.nx σ (upd H2 a (.ins C dx (putF f y fs)))) : sFld K ta tv f D σ H := h
theorem r_sfldE {p C dx : Addr} {fs : List (Str × V)} {f : Str} {R : Addr → Addr → Addr → List (Str × V) → Prop} (hp : H p = some (.ins C dx fs)) (hc : Cls K C) (hn : NoAttr K C f) (hl : fs.length < 1000) (h : R p C dx fs) :
    ∃ a C dx fs, V.ref p = .ref a ∧ H a = some (.ins C dx fs) ∧ Cls K C ∧ NoAttr K C f ∧ fs.length < 1000 ∧ R a C dx fs := ⟨p, C, dx, fs, rfl, hp, hc, hn, hl, h⟩
theorem r_fld {te : TE} {f : Str} (h : te σ H fun x H1 => ∃ a C dx fs v, x = .ref a ∧ H1 a = some (.ins C dx fs) ∧ Cls K C ∧ NoAttr K C f ∧ fs.lookup f = some v ∧ Q v H1) : tFld K te f σ H Q := h
theorem r_fldE {p C dx : Addr} {fs : List (Str × V)} {f : Str} {v : V} {R : V → Prop} (hp : H p = some (.ins C dx fs)) (hc : Cls K C) (hn : NoAttr K C f) (hl : fs.lookup f = some v) (h : R v) :
    ∃ a C dx fs v, V.ref p = .ref a ∧ H a = some (.ins C dx fs) ∧ Cls K C ∧ NoAttr K C f ∧ fs.lookup f = some v ∧ R v := ⟨p, C, dx, fs, v, rfl, hp, hc, hn, hl, h⟩
end
/-! ### f-strings; repr of an own object -/
def tJoin (ts : List TE) : TE := fun σ H Q => tJs ts Str.empty σ H fun out H1 => Q (.str out) H1
theorem pe_joinN {X : Cx} {E : Expr} {ts : List TE} (h : PE X E (fun σ H Q => tJs ts Str.empty σ H fun out H1 => Q (.str out) H1)) : PE X E (tJoin ts) := h
section
variable {K : PySem.W.Frag} {σ : L2.St} {H : Hp} {Q : VK}
theorem r_join {ts : List TE} (h : tJs ts Str.empty σ H fun out H1 => Q (.str out) H1) : tJoin ts σ H Q := h
theorem r_jnil {acc : Str} {Q : Str → Hp → Prop} (h : Q acc H) : tJs [] acc σ H Q := h
theorem r_jcons {t : TE} {ts : List TE} {acc : Str} {Q : Str → Hp → Prop} (h : t σ H fun x H1 => ∃ y : Str, x = .str y ∧ (acc ++ y).length ≤ sizeLine ∧ tJs ts (acc ++ y) σ H1 Q) : tJs (t :: ts) acc σ H Q := h
theorem r_jE {y acc : Str} {P : Str → Prop} (hz : (acc ++ y).length ≤ sizeLine) (h : P (acc ++ y)) : ∃ u : Str, V.str y = .str u ∧ (acc ++ u).length ≤ sizeLine ∧ P (acc ++ u) := ⟨y, rfl, hz, h⟩
theorem r_fmtR {te : TE} (h : te σ H fun x H1 => (∃ y : Str, x = .str y ∧ (reprText y).length ≤ sizeLine ∧ Q (.str (reprText y)) H1) ∨ ∃ i : Int, x = .int i ∧ i.natAbs.log2 < 1920 ∧ Q (.str (toString i)) H1) : tFmtR te σ H Q := h
end
/-- repr(o), o of a class with a __repr__ of its own -/
def rReprO (C : Addr) (sp : Sp) : List V → Hp → VK → Prop := fun xs H Q => ∃ a dx fs, xs = [.ref a] ∧ H a = some (.ins C dx fs) ∧ ∀ E, sp [.ref a] H (fun v H' => ∃ z, v = .str z ∧ Q (.str z) H') E
theorem call_rReprO {X : Cx} {C f : Addr} {fd : FuncData} {k : Nat} {sp : Sp} (hs : PySem.W.findIn X.K (.ref C) "__repr__" = some (some (.ref f))) (hf : PySem.W.isFn X.K (.ref f) = true) (F : FnOk X.prog X.w X.K X.mg X.base CX0 k f fd ["self"] sp) (hb : Binds X.K fd ["self"] []) (hr : Room (k + 1) X.A) :
    CallR X (.builtin "repr") (rReprO C sp) := by
  intro pins s σ H xs us Q I r h
  obtain ⟨a, dx, fs, rfl, ha, q⟩ := h
  obtain ⟨u, rfl, rx⟩ := vals1 r
  have hu : u = Value.ref a := rx
  subst hu
  obtain ⟨mA, O, _⟩ := ins_get I.hok ha
  obtain ⟨od, J, _⟩ := O.look
  obtain ⟨m, fr⟩ := I.fr
  have room : Room k X.A.in1 := hr.in1
  refine PySem.W.repr_K (by have := room.un; omega) fr I.ok.mod.kin J hs hf ?_
  refine wpAny_call (codeAny_mono (F.run X.A.in1 X.stack s H ⟨[.ref a], []⟩ [.ref a] [.ref a] _ (fun _ _ _ => False) room I.env0.in1 (hb s [.ref a] I.kIn rfl) (.cons rfl .nil) (q _)) ?_)
  intro r s' hq
  cases r with
  | error e => exact False.elim hq
  | ok fl =>
    cases fl with
    | ret v =>
      obtain ⟨y, H', J', rel, z, rfl, q'⟩ := I.after hq
      obtain ⟨t, rfl⟩ := rel
      exact ⟨.str z, H', J', ⟨t, rfl⟩, q'⟩
    | next => exact False.elim hq
    | brk => exact False.elim hq
    | cont => exact False.elim hq
end Th
/-! text.encode("ascii") of a text whose signs are all below 128 -/
namespace Bt
open PySem PySem.Spec PyProof.Rows L2 PySem.Builtin PySem.W PySem.Calls
/-- the bytes of a text -/
def byOf (l : List Nat) : Array UInt8 := (l.map Nat.toUInt8).toArray
/-- a codec that writes each sign below 128 as its own byte -/
structure Plain (c : _codecs.TextCodec) : Prop where
  ok : ∀ k, k < 128 → c.bad k = false
  by1 : ∀ k, k < 128 → c.bytesOf k = [k.toUInt8]
theorem plain_ascii : Plain _codecs.asciiCodec := ⟨fun k h => decide_eq_false (by omega), fun _ _ => rfl⟩
theorem fold_plain {c : _codecs.TextCodec} (hc : Plain c) : ∀ (l : List Nat) (acc : Array UInt8), (∀ k ∈ l, k < 128) → l.foldl (fun acc y => acc ++ (c.bytesOf y).toArray) acc = acc ++ byOf l
  | [], acc, _ => by simp [byOf]
  | k :: l, acc, h => by
    rw [List.foldl_cons, hc.by1 k (h k (.head _)), fold_plain hc l _ fun d hd => h d (.tail _ hd)]
    apply Array.toList_inj.mp
    simp [byOf]
section
variable {M : Model} {A : Around} {E : Value → Shared → Prop} {s : Shared} {x : PySem.Str} {id : String} {self : Value}
theorem narrow {c : _codecs.TextCodec} (hc : Plain c) {Q : Array UInt8 → Shared → Prop} (ha : KSb.Asc x) (hz : x.length ≤ 16777216) (h : Q (byOf x.cps.toList) s) : wpAny M A (_codecs.encodeNarrow id c none self x) Q E s := by
  have hall : x.cps.findIdx? c.bad = none := by
    rw [Array.findIdx?_eq_none_iff]
    intro k hk
    rw [hc.ok k (ha k (Array.mem_toList_iff.mpr hk))]
  have hex : x.cps.extract 0 x.cps.size = x.cps := KSb.whole_extract x
  have hclean : ((x.cps.findIdx? c.bad).getD x.cps.size) = x.cps.size := by rw [hall]; rfl
  have hfold : x.cps.foldl (fun acc y => acc ++ (c.bytesOf y).toArray) #[] = byOf x.cps.toList := by
    rw [← Array.foldl_toList, fold_plain hc _ _ ha]
    simp
  have hsz : (byOf x.cps.toList).size = x.cps.size := by simp [byOf]
  have hz' : x.cps.size ≤ 16777216 := hz
  unfold _codecs.encodeNarrow
  refine wpAny_bind ?_
  rw [KPc.range_list]
  rcases hn : x.length with _ | n
  · show wpAny M A (forIn ([] : List Nat) _ _) _ E s
    rw [List.forIn_nil]
    have e : byOf x.cps.toList = #[] := Array.eq_empty_of_size_eq_zero (hsz.trans hn)
    rw [e] at h
    exact wpAny_pure (wpAny_pure h)
  · have h0 : 0 < x.cps.size := by
      show 0 < x.length
      omega
    rw [List.range'_succ]
    refine KPc.turn (wpAny_ite (KBy.ite_no (by simp [sizeLine_eq]) ?_))
    try dsimp only
    rw [Array.getElem?_eq_getElem h0]
    try dsimp only
    refine wpAny_ite (KBc.ite_yes (by rw [hc.ok _ (ha _ (Array.mem_toList_iff.mpr (Array.getElem_mem h0)))]; rfl) ?_)
    rw [hex, hclean, hex, hfold]
    try dsimp only
    refine wpAny_pure ?_
    rcases n with _ | m
    · show wpAny M A (forIn ([] : List Nat) _ _) _ E s
      rw [List.forIn_nil]
      exact wpAny_pure (wpAny_pure h)
    · rw [List.range'_succ]
      refine KPc.turn (wpAny_ite (KBy.ite_no (by rw [hsz, sizeLine_eq]; omega) ?_))
      try dsimp only
      rw [Array.getElem?_eq_none (by omega : x.cps.size ≤ 0 + x.cps.size)]
      try dsimp only
      exact wpAny_pure (wpAny_pure h)
end
theorem enc_tree (x : PySem.Str) (t u : Tok) : «str.encode» ⟨[.str x t, .str (PySem.Str.ofString "ascii") u], []⟩ = (do ret (← _codecs.encodeRoad "str.encode" (.str x t) x (PySem.Str.ofString "ascii") none)) := by
  first | kernel_rfl | (unfold «str.encode»; simp only []; rfl)
theorem road_ascii (id : String) (self : Value) (x : PySem.Str) (errors : Option PySem.Str) : _codecs.encodeRoad id self x (PySem.Str.ofString "ascii") errors = (do mkBytes (← _codecs.encodeNarrow id _codecs.asciiCodec errors self x)) := by
  first | rfl | (unfold _codecs.encodeRoad; rfl) | (unfold _codecs.encodeRoad; simp only []; rfl)
theorem meets_enc {x : PySem.Str} {t u : Tok} (ha : KSb.Asc x) (hz : x.length ≤ 16777216) : Gives («str.encode» ⟨[.str x t, .str (PySem.Str.ofString "ascii") u], []⟩) (.bytes (byOf x.cps.toList)) := .of_wp fun M A E s Q hq => by
  rw [enc_tree, road_ascii]
  refine wpAny_bind (wpAny_bind (narrow plain_ascii ha hz ?_))
  obtain ⟨hb, hq⟩ := hq
  refine wpAny_mkBytes ?_ hb
  exact wpAny_pure ⟨_, rfl, hq⟩
section
variable {X : Cx}
theorem mt_enc : MtR X "str.encode" (fun x xs H Q => ∃ a b, x = .str a ∧ xs = [.str b] ∧ (KSb.Asc a ∧ a.length ≤ 16777216 ∧ b = PySem.Str.ofString "ascii") ∧ Q (.byt (byOf a.cps.toList)) H) :=
  mt1C (C := fun a b => KSb.Asc a ∧ a.length ≤ 16777216 ∧ b = PySem.Str.ofString "ascii") (g := fun a _ => .byt (byOf a.cps.toList)) fun a b t u s Q hc h => by
    obtain ⟨ha, hz, rfl⟩ := hc
    exact call_gives F.slot_str_encode (typeIs_str s a t) F.entry_str_encode (F.args_str_encode_2 _ _) (meets_enc ha hz) ⟨by rw [sizeLine_eq]; rw [show (byOf a.cps.toList).size = a.length from by simp [byOf, PySem.Str.length]]; exact hz, h _ _ ⟨_, rfl⟩⟩
end
end Bt
/-! f"{n:o}" and f"{n:06o}" of an int from 0 -/
namespace Bt
open PySem PySem.Spec PyProof.Rows L2 PySem.Builtin PySem.W PySem.Calls
open Builtin.Str Builtin.Int Builtin.Float
/-- the octal digits as signs -/
def octL (n : Nat) : List Nat := (Nat.toDigits 8 n).map fun c => c.toNat
def octP (n k : Nat) : List Nat := List.replicate (k - (octL n).length) 48 ++ octL n
theorem oct_ne (n : Nat) : (octL n).isEmpty = false := by
  have := tDigits_len_ge 8 n
  unfold octL
  cases h : Nat.toDigits 8 n with
  | nil => rw [h] at this; simp at this
  | cons _ _ => rfl
theorem spec_o : parseFormatSpec (PySem.Str.ofString "o").cps.toList "int" 62 = .ok { fill := 32, align := 62, type := some 111 } := by first | rfl | kernel_rfl | decide +kernel
theorem spec_06o : parseFormatSpec (PySem.Str.ofString "06o").cps.toList "int" 62 = .ok { fill := 48, align := 61, width := some 6, type := some 111 } := by first | rfl | kernel_rfl | decide +kernel
theorem oct_len (n : Nat) (h : n < 8 ^ 30) : (octL n).length ≤ 30 := by
  unfold octL
  rw [List.length_map]
  rcases Nat.eq_zero_or_pos n with rfl | hp
  · decide
  · have := (Nat.length_toDigits_le_iff (n := n) (k := 30) (b := 8) (by decide) (by decide)).mpr h
    exact this
theorem field_o {f : FormatSpec} (hf : f.fill = 32) (ha : f.align = 62) (hw : f.width = none) (hg : f.grouping = none) (hs : f.sign = none) (n : Nat) (g : Nat) :
    intField' f false [] (octL n) [] g = ⟨(octL n).toArray⟩ := by
  unfold intField'
  simp only [hf, ha, hw, hg, hs, oct_ne]
  refine Str.ext' ?_
  simp
theorem field_06o {f : FormatSpec} {k : Nat} (hf : f.fill = 48) (ha : f.align = 61) (hw : f.width = some k) (hg : f.grouping = none) (hs : f.sign = none) (n : Nat) (g : Nat) :
    intField' f false [] (octL n) [] g = ⟨(octP n k).toArray⟩ := by
  rw [intField'_zero_nonneg f (octL n) g hg hs (oct_ne n) hf ha, hw]
  rfl
end Bt
namespace Bt
open PySem PySem.Spec PyProof.Rows L2 PySem.Builtin PySem.W PySem.Calls
open Builtin.Str Builtin.Int Builtin.Float
/-- a format by octal digits -/
abbrev octS (fill align : Nat) (w : Option Nat) : FormatSpec := { fill := fill, align := align, width := w, type := some 111 }
structure OctF (sp : PySem.Str) (fill align : Nat) (w : Option Nat) : Prop where
  ne : (sp.length == 0) = false
  asc : ((sp.cps.toList.drop 1).any (· ≥ 128) || (sp.cps.getD 0 0 ≥ 128 && !([60, 62, 61, 94] : List Nat).contains (sp.cps.getD 1 0))) = false
  ok : parseFormatSpec sp.cps.toList "int" 62 = .ok (octS fill align w)
  w : w.getD 0 ≤ 100000
theorem ret_T {M : Model} {A : Around} {E : Value → Shared → Prop} {s : Shared} {X T : PySem.Str} {Q : PySem.Fin → Shared → Prop} (e : X = T) (hL : T.length ≤ sizeLine) (h : ∀ t k, Q (.done (.ret (.str T t))) { s with toks := k }) : wpAny M A (retStr X) Q E s := by
  subst e
  exact wpAny_bind (wpAny_mkStr (wpAny_pure (h _ _)) hL)
theorem fmt_oct {sp : PySem.Str} {fill align : Nat} {wd : Option Nat} (F : OctF sp fill align wd) {a : Int} (h0 : decide (a < 0) = false) {T : PySem.Str} (e : intField' (octS fill align wd) false [] (octL a.natAbs) [] 4 = T) (hL : T.length ≤ sizeLine) (t u : Tok) :
    Meets («int.__format__» ⟨[.int a t, .str sp u], []⟩) (fun _ R s => ∀ t' k, R (.ok (.ret (.str T t'))) { s with toks := k }) := by
  obtain ⟨hne, hasc, hok, hw⟩ := F
  apply KPc.meets_of
  intro prog w A s Q E hq
  unfold Builtin.«int.__format__»
  simp only [selfAndOne, noKeywords, Int.intOfSelf, asInt?, asStr?, List.isEmpty_nil, if_true, pure_bind, bind_pure, bind_assoc, hne, hasc, Bool.false_eq_true, if_false,
    show (Value.str sp u == Value.none) = false from rfl]
  refine wpAny_bind (wpAny_typeNameOf (T := "str") (typeIs_str _ _ _) (by decide) fun _ => ?_)
  refine wpAny_bind (wpAny_typeNameOfCut_int ?_)
  simp only [hok, Option.getD_some]
  rw [if_pos (by decide)]
  show wpAny _ _ (if _ then _ else _) _ _ _
  rw [if_neg (by simpa using hw)]
  refine ret_T (T := T) ?_ hL hq
  rw [h0]
  exact e
theorem oct_o : OctF (PySem.Str.ofString "o") 32 62 none := ⟨by decide +kernel, by decide +kernel, spec_o, by decide⟩
theorem oct_06o : OctF (PySem.Str.ofString "06o") 48 61 (some 6) := ⟨by decide +kernel, by decide +kernel, spec_06o, by decide⟩
theorem octP_len (n k : Nat) (h : n < 8 ^ 30) : (octP n k).length ≤ 30 + k := by
  have := oct_len n h
  unfold octP
  rw [List.length_append, List.length_replicate]
  omega
theorem big {k : Nat} (h : k ≤ 100000) : k ≤ sizeLine := by rw [sizeLine_eq]; omega
section
variable {X : Cx}
/-- {x:..}: octal digits -/
def tFmtO (g : Nat → List Nat) (te : TE) : TE := fun σ H Q => te σ H fun x H1 => ∃ n : Nat, x = .int n ∧ n < 8 ^ 30 ∧ Q (.str ⟨(g n).toArray⟩) H1
theorem pe_oct {sp : PySem.Str} {fill align : Nat} {wd : Option Nat} (F : OctF sp fill align wd) {g : Nat → List Nat} (hg : ∀ n, intField' (octS fill align wd) false [] (octL n) [] 4 = ⟨(g n).toArray⟩)
    (hl : ∀ n, n < 8 ^ 30 → (g n).length ≤ 100000) (hs : sp.length ≤ sizeLine) {e es : Expr} {te : TE} {pos : Pos} (he : PE X e te) (hc : PE X es (tC (.str sp))) : PE X (.FormattedValue e (-1) (some es) pos) (tFmtO g te) := by
  refine ⟨fun pins s σ H Q I h => ?_⟩
  refine wpAny_FormattedValue_spec (thn (he.run pins s σ H _ I h) fun v s1 hv => ?_)
  obtain ⟨x, H1, I1, r1, n, rfl, hn, q⟩ := hv
  obtain ⟨t, rfl⟩ := r1
  refine thn (hc.run pins s1 σ H1 (fun y H2 => y = .str sp ∧ H2 = H1) I1 ⟨rfl, rfl⟩) fun v2 s2 hv2 => ?_
  obtain ⟨y, H2, I2, r2, rfl, rfl⟩ := hv2
  obtain ⟨t2, rfl⟩ := r2
  refine ⟨sp, t2, rfl, ?_⟩
  have hL : (⟨(g n).toArray⟩ : PySem.Str).length ≤ sizeLine := big (by simpa [PySem.Str.length] using hl n hn)
  have h0 : decide ((n : Int) < 0) = false := decide_eq_false (by omega)
  refine KXf.field_int (y := ⟨(g n).toArray⟩) (spec' := sp) rfl F.ne hs (fun u => ?_) fun t' k => ⟨.str _, _, I2.tok _, ⟨_, rfl⟩, q⟩
  exact fmt_oct F h0 (T := ⟨(g n).toArray⟩) (hg n) hL _ _
theorem pe_o {e es : Expr} {te : TE} {pos : Pos} (he : PE X e te) (hc : PE X es (tC (.str (PySem.Str.ofString "o")))) : PE X (.FormattedValue e (-1) (some es) pos) (tFmtO octL te) :=
  pe_oct oct_o (fun n => field_o rfl rfl rfl rfl rfl n 4) (fun n h => by have := oct_len n h; omega) (by decide +kernel) he hc
theorem pe_06o {e es : Expr} {te : TE} {pos : Pos} (he : PE X e te) (hc : PE X es (tC (.str (PySem.Str.ofString "06o")))) : PE X (.FormattedValue e (-1) (some es) pos) (tFmtO (octP · 6) te) :=
  pe_oct oct_06o (fun n => field_06o rfl rfl rfl rfl rfl n 4) (fun n h => by have := octP_len n 6 h; omega) (by decide +kernel) he hc
end
end Bt
/-! sum of bytes, bytes * int -/
namespace Bt
open PySem PySem.Spec PyProof.Rows L2 PySem.W
/-- the bytes as numbers -/
def nums (b : List UInt8) : List Int := b.map fun c => ((c.toNat : Nat) : Int)
theorem preSum_nums (b : List UInt8) : ∀ n, n ≤ b.length → preSum (fun i => (nums b).getD i 0) n = ((nums b).take n).sum := fun n _ => preSum_getD (nums b) n
section
variable {X : Cx}
/-- sum(b) -/
theorem cr_sumB (hc : X.calm = true := by rfl) : CallR X (.builtin "sum") (fun vs H Q => ∃ b : List UInt8, vs = [.byt b.toArray] ∧ Q (.int (nums b).sum) H) := by
  intro pins s σ H vs us Q I r h
  obtain ⟨b, rfl, q⟩ := h
  obtain ⟨u, rfl, rx⟩ := vals1 r
  obtain ⟨t, rfl⟩ := rx
  have hh : X.A.in1.handled = none := I.ok.hd hc
  refine call_sum_walkG (KBw.pyIter_bytes ?_)
  refine ⟨_, _, _, _, _, _, fun i => (nums b).getD i 0, rfl, KBw.walks hh s.heap.objs.size b.toArray t, ⟨_, Heap.get?_push_size _ rfl, rfl, rfl⟩, fun a ha => ?_, fun i v hv => ?_, fun h' tk t' hk => ?_⟩
  · have e := List.mem_singleton.mp ha
    subst e
    exact Heap.lt_size (Heap.get?_push_size _ rfl)
  · obtain ⟨c, w, hc, rfl⟩ := hv
    refine ⟨w, ?_⟩
    have e : (nums b).getD i 0 = (c.toNat : Int) := by
      unfold nums
      simp at hc
      simp [hc]
    exact congrArg (fun z => Value.int z w) e.symm
  · have e : preSum (fun i => (nums b).getD i 0) b.toArray.size = (nums b).sum := by
      rw [List.size_toArray, preSum_nums b _ (Nat.le_refl _), List.take_of_length_le (by simp [nums])]
    rw [e]
    exact ⟨.int _, H, I.kept (fun a o ho => hk a o (fun hm => absurd (List.mem_singleton.mp hm) (Nat.ne_of_lt (Heap.lt_size ho))) (Heap.get?_push_of_some _ ho)), ⟨_, rfl⟩, q⟩
/-- b * n, b not empty and short -/
theorem op_mulB : OpR X (binaryOp .Mult) (fun x y H Q => ∃ (b : List UInt8) (n : Int), x = .byt b.toArray ∧ y = .int n ∧ (b ≠ [] ∧ -1048576 ≤ n ∧ n ≤ 1048576 ∧ b.length ≤ 16) ∧ Q (.byt ((List.replicate n.toNat b).flatten).toArray) H) := by
  intro pins s σ H x y v u Q I rx ry h
  obtain ⟨b, n, rfl, rfl, ⟨h1, h2, h3, h4⟩, q⟩ := h
  obtain ⟨t, rfl⟩ := rx
  obtain ⟨t', rfl⟩ := ry
  exact bytes_mul_any h1 h2 h3 h4 fun t2 k => ⟨.byt _, H, I.tok _, ⟨_, rfl⟩, q⟩
end
end Bt
/-! list(b) of bytes -/
namespace Bt
open PySem PySem.Spec PyProof.Rows L2 PySem.W PySem.Builtin
/-- what stands at a place of the bytes -/
def ByAt (b : Array UInt8) (i : Nat) (v : Value) : Prop := ∃ c u, b[i]? = some c ∧ v = .int (c.toNat : Int) u
theorem sub_by : isSubtype (.type "bytes") (.type "bytes") = pure true := by rw [isSubtype_type]; kernel_rfl
section
variable {prog : Program} {w : World} {A : Around} {E : Value → Shared → Prop} {s : Shared} {b : Array UInt8} {t : Tok}
theorem hint_by {Q : Bool → Shared → Prop} (h : Q false s) : wpAny (model prog w) A (Builtin.List.listLengthHint (.bytes b t)) Q E s := by
  unfold Builtin.List.listLengthHint
  refine wpAny_bind (wpAny_specialOf (T := "bytes") (typeIs_bytes s b t) FB.slot_bytes_len.lookup ?_)
  wp_delta
  refine wpAny_bind (wpAny_isInstance (T := "bytes") (b := true) (typeIs_bytes s b t) sub_by ?_)
  show wpAny _ _ (typeOf (Value.bytes b t) >>= _) _ _ _
  refine wpAny_bind (wpAny_typeOf (T := "bytes") (typeIs_bytes s b t) ?_)
  exact wpAny_pure h
theorem more_by {R : Result → Shared → Prop} (hh : A.handled = none) (S : Addr) (c0 : Nat) (hS : s.heap.get? S = some { cls := .type "list", data := .seq #[] c0 })
    (hR : ∀ h' tk acc c, (∀ p o, p ≠ S → s.heap.get? p = some o → h'.get? p = some o) → h'.get? S = some { cls := .type "list", dict := none, data := .seq acc c, slots := #[] } → ItemsOf (ByAt b) acc b.size →
      R (.ok (.ret .none)) { s with heap := h', toks := tk }) (hn : b.size ≤ sizeLine) :
    wpAny (model prog w) A.in1 (Builtin.List.listExtendWith (.ref S) (.bytes b t) .none)
      (fun fin s' => match fin with | .done f => R (.ok f) s' | .again c' => c'.quiet = true ∧ codeAny (model prog w) A c' R s') (fun e s' => R (.error e) s') s := by
  have hlt := Heap.lt_size hS
  have hnew : S ∉ [s.heap.objs.size] := fun hm => absurd (List.mem_singleton.mp hm) (Nat.ne_of_lt hlt)
  unfold Builtin.List.listExtendWith
  refine wpAny_bind (wpAny_typeOf (T := "bytes") (typeIs_bytes s b t) ?_)
  simp only [show Builtin.List.listSameRef (.ref S) (.bytes b t) = false from rfl, show (Value.type "bytes" == Value.type "list") = false by decide, show (Value.type "bytes" == Value.type "tuple") = false by decide, Bool.or_false, Bool.false_eq_true, if_false]
  refine wpAny_bind (KBw.pyIter_bytes ?_)
  refine wpAny_bind (wpAny_holding (hint_by ?_))
  rw [if_neg (by decide)]
  refine wpAny_pure ⟨plainId_quiet F.plain_extend_loop _, codeAny_extend_loopS (KBw.walks (A := A.in1) hh s.heap.objs.size b t).toS hn S hnew .none b.size 0 _ _ _ rfl (Nat.zero_le _) ⟨_, Heap.get?_push_size _ rfl, rfl, rfl⟩
    (Heap.get?_push_of_some _ hS) (ItemsOf.nil _) fun s' acc c hm hS' hacc => ?_⟩
  rw [Moved.eq_with hm]
  refine hR s'.heap s'.toks acc c (fun p o hp ho => hm.heap p o (fun hin => ?_) (Heap.get?_push_of_some _ ho)) hS' hacc
  rcases List.mem_cons.mp hin with e | e
  · exact hp e
  · exact absurd (List.mem_singleton.mp e) (Nat.ne_of_lt (Heap.lt_size ho))
theorem init_by {R : Result → Shared → Prop} (hh : A.handled = none) (S : Addr) (hS : s.heap.get? S = some { cls := .type "list", data := .seq #[] })
    (hR : ∀ h' tk acc c, (∀ p o, p ≠ S → s.heap.get? p = some o → h'.get? p = some o) → h'.get? S = some { cls := .type "list", dict := none, data := .seq acc c, slots := #[] } → ItemsOf (ByAt b) acc b.size →
      R (.ok (.ret .none)) { s with heap := h', toks := tk }) (hn : b.size ≤ sizeLine) :
    wpAny (model prog w) A.in1 (Builtin.«list.__init__» ⟨[.ref S, .bytes b t], []⟩)
      (fun fin s' => match fin with | .done f => R (.ok f) s' | .again c' => c'.quiet = true ∧ codeAny (model prog w) A c' R s') (fun e s' => R (.error e) s') s := by
  show wpAny _ _ (do let old ← Builtin.List.listItems (.ref S); Builtin.List.listUpdate (.ref S) (fun _ => #[]); letGo old.toList.reverse; Builtin.List.listExtendWith (.ref S) (.bytes b t) .none) _ _ s
  refine wpAny_bind ?_
  unfold Builtin.List.listItems
  refine wpAny_bind (wpAny_seqItems hS rfl (wpAny_pure ?_))
  show wpAny _ _ (updateSeq S (fun _ => #[]) >>= fun _ => letGo (#[] : Array Value).toList.reverse >>= fun _ => Builtin.List.listExtendWith (.ref S) (.bytes b t) .none) _ _ s
  refine wpAny_bind (wpAny_updateSeq hS rfl (wpAny_bind (wpAny_letGo ?_)))
  exact more_by hh S _ (Heap.get?_update_self (Obj.mapSeq (fun _ => (#[] : Array Value))) hS rfl)
    (fun h' tk acc c hk => hR h' tk acc c fun p o hp ho => hk p o hp ((Heap.get?_update_other _ _ (Ne.symm hp)).trans ho)) hn
theorem list_by {Q : Value → Shared → Prop} (hh : A.handled = none) (hn : b.size ≤ sizeLine)
    (hQ : ∀ h' tk acc c, (∀ p o, s.heap.get? p = some o → h'.get? p = some o) → h'.get? s.heap.objs.size = some { cls := .type "list", dict := none, data := .seq acc c, slots := #[] } → ItemsOf (ByAt b) acc b.size →
      Q (.ref s.heap.objs.size) { s with heap := h', toks := tk }) :
    wpAny (model prog w) A (call (.type "list") [.bytes b t]) Q E s := by
  refine callType_codes (Q₁ := fun obj s₁ => obj = .ref s.heap.objs.size ∧ s₁ = { s with heap := s.heap.push { cls := .type "list", data := .seq #[] } }) F.called_list (F.typeCall_list_1 _) F.entry_list_init
    (code_list_new _ ⟨rfl, rfl⟩) fun obj s₁ h₁ => ?_
  obtain ⟨rfl, rfl⟩ := h₁
  have hS : (s.heap.push { cls := .type "list", data := .seq #[] }).get? s.heap.objs.size = some { cls := .type "list", data := .seq #[] } := Heap.get?_push_size _ rfl
  refine ⟨⟨_, hS, rfl⟩, F.args_list_init_2 _ _, init_by (A := A.in1) hh _ hS (fun h' tk acc c hk hS' hacc => ?_) hn⟩
  exact ⟨rfl, hQ h' tk acc c (fun p o ho => hk p o (Nat.ne_of_lt (Heap.lt_size ho)) (Heap.get?_push_of_some _ ho)) hS' hacc⟩
end
theorem vals_by (b : List UInt8) : ∀ (acc : List Value), acc.length = b.length → (∀ (j : Nat) v, acc[j]? = some v → ByAt b.toArray j v) → Vals ((nums b).map V.int) acc := by
  induction b with
  | nil =>
    intro acc hl _
    rw [List.length_eq_zero_iff.mp hl]
    exact .nil
  | cons c b ih =>
    intro acc hl h
    cases acc with
    | nil => cases hl
    | cons v acc =>
      refine .cons ?_ (ih acc (Nat.succ.inj hl) fun j v' hv => ?_)
      · obtain ⟨c', u, hc, rfl⟩ := h 0 v rfl
        simp at hc
        subst hc
        exact ⟨u, rfl⟩
      · obtain ⟨c', u, hc, e⟩ := h (j + 1) v' (by simpa using hv)
        exact ⟨c', u, by simpa using hc, e⟩
section
variable {X : Cx}
/-- list(b) -/
theorem call_listB (hc : X.calm = true := by rfl) : CallR X (.type "list") (fun xs H Q => ∃ b : List UInt8, xs = [.byt b.toArray] ∧ b.length ≤ 16777216 ∧ ∀ p, H p = none → Q (.ref p) (upd H p (.lst ((nums b).map V.int)))) := by
  intro pins s σ H xs us Q I r h
  obtain ⟨b, rfl, hz, q⟩ := h
  obtain ⟨u, rfl, rx⟩ := vals1 r
  obtain ⟨t, rfl⟩ := rx
  have hn : b.toArray.size ≤ sizeLine := by rw [List.size_toArray, sizeLine_eq]; exact hz
  refine list_by (I.ok.hd hc) hn fun h' tk acc c hk hS hacc => ?_
  have hv : Vals ((nums b).map V.int) acc.toList := vals_by b acc.toList (by rw [Array.length_toList, hacc.1, List.size_toArray]) fun j v hv => hacc.2 j v (by rw [← Array.getElem?_toList]; exact hv)
  have hl : ((nums b).map V.int).length ≤ sizeLine := by rw [List.length_map]; unfold nums; rw [List.length_map, sizeLine_eq]; exact hz
  exact ⟨.ref s.heap.objs.size, _, I.laid (t' := tk) hk (Nat.le_refl _) (show ObjOk X.prog X.w _ h' _ (.lst ((nums b).map V.int)) from ⟨hl, acc.toList, c, hv, hS⟩), rfl, q _ (I.hok.fresh (Nat.le_refl _))⟩
end
end Bt
/-! the octal digits, written from the last one on -/
namespace Bt
open PySem PySem.Spec PyProof.Rows L2
/-- k octal digits of n, the last one first -/
def digs : Nat → Nat → List Nat
  | 0, _ => []
  | k + 1, n => (48 + n % 8) :: digs k (n / 8)
theorem digs_len : ∀ k n, (digs k n).length = k
  | 0, _ => rfl
  | k + 1, n => by rw [digs, List.length_cons, digs_len k]
theorem digs_zero : ∀ k, digs k 0 = List.replicate k 48
  | 0 => rfl
  | k + 1 => by
    rw [digs, List.replicate_succ]
    exact congrArg _ (digs_zero k)
theorem digit8 {d : Nat} (h : d < 8) : (Nat.digitChar d).toNat = 48 + d := by
  have : d = 0 ∨ d = 1 ∨ d = 2 ∨ d = 3 ∨ d = 4 ∨ d = 5 ∨ d = 6 ∨ d = 7 := by omega
  rcases this with rfl | rfl | rfl | rfl | rfl | rfl | rfl | rfl <;> rfl
theorem octL_small {n : Nat} (h : n < 8) : octL n = [48 + n] := by
  unfold octL
  rw [Nat.toDigits_of_lt_base h]
  exact congrArg (fun x => [x]) (digit8 h)
theorem octL_step {n : Nat} (h : 8 ≤ n) : octL n = octL (n / 8) ++ [48 + n % 8] := by
  unfold octL
  rw [Nat.toDigits_eq_if (by decide), if_neg (by omega), List.map_append]
  exact congrArg (fun x => _ ++ [x]) (digit8 (Nat.mod_lt _ (by decide)))
theorem oct_snoc {n k : Nat} (h : 8 ≤ n) : octP n (k + 1) = octP (n / 8) k ++ [48 + n % 8] := by
  unfold octP
  rw [octL_step h, List.length_append, List.append_assoc]
  have : k + 1 - ((octL (n / 8)).length + [48 + n % 8].length) = k - (octL (n / 8)).length := by simp
  rw [this]
/-- k digits from the front are those from the back, turned round -/
theorem digs_oct : ∀ (k n : Nat), 1 ≤ k → n < 8 ^ k → (digs k n).reverse = octP n k := by
  intro k
  induction k with
  | zero => intro n h; omega
  | succ k ih =>
    intro n _ hn
    rw [digs, List.reverse_cons]
    by_cases h8 : n < 8
    · have e : n / 8 = 0 := by omega
      have e2 : n % 8 = n := by omega
      rw [e, e2, digs_zero, List.reverse_replicate]
      unfold octP
      rw [octL_small h8]
      rfl
    · have h8' : 8 ≤ n := by omega
      rw [oct_snoc h8']
      rcases k with _ | k
      · omega
      · rw [ih (n / 8) (by omega) (by
          have : n < 8 ^ (k + 1) * 8 := by rw [← Nat.pow_succ]; exact hn
          omega)]
theorem octL_small_signs : ∀ (k n : Nat), n < 8 ^ k → ∀ c ∈ octL n, 48 ≤ c ∧ c < 56 := by
  intro k
  induction k with
  | zero =>
    intro n hn c hc
    have : n = 0 := by omega
    subst this
    rw [octL_small (by decide)] at hc
    have := List.mem_singleton.mp hc
    omega
  | succ k ih =>
    intro n hn c hc
    by_cases h8 : n < 8
    · rw [octL_small h8] at hc
      have := List.mem_singleton.mp hc
      omega
    · rw [octL_step (by omega)] at hc
      rcases List.mem_append.mp hc with h | h
      · exact ih (n / 8) (by
          have : n < 8 ^ k * 8 := by rw [← Nat.pow_succ]; exact hn
          omega) c h
      · have := List.mem_singleton.mp h
        omega
theorem lt_pow8 (n : Nat) : n < 8 ^ n := Nat.lt_pow_self (by decide)
theorem octL_signs (n : Nat) : ∀ c ∈ octL n, 48 ≤ c ∧ c < 56 := octL_small_signs n n (lt_pow8 n)
theorem octP_signs (n k : Nat) : ∀ c ∈ octP n k, 48 ≤ c ∧ c < 56 := by
  intro c hc
  unfold octP at hc
  rcases List.mem_append.mp hc with h | h
  · have := List.eq_of_mem_replicate h
    omega
  · exact octL_signs n c h
theorem octL_le (n k : Nat) (hk : 1 ≤ k) (h : n < 8 ^ k) : (octL n).length ≤ k := by
  unfold octL
  rw [List.length_map]
  exact (Nat.length_toDigits_le_iff (by decide) hk).mpr h
theorem octP_length {n k : Nat} (hk : 1 ≤ k) (h : n < 8 ^ k) : (octP n k).length = k := by
  have := octL_le n k hk h
  unfold octP
  rw [List.length_append, List.length_replicate]
  omega
theorem asc_oct (n k : Nat) : PySem.W.KSb.Asc ⟨(octP n k).toArray⟩ := fun c hc => by
  have := octP_signs n k c (by simpa using hc)
  omega
/-- zeros put before the digits -/
theorem zfill_oct {n k : Nat} : Txt.zfill ⟨(octL n).toArray⟩ (k : Int) = ⟨(octP n k).toArray⟩ := by
  unfold Txt.zfill
  have hl : (⟨(octL n).toArray⟩ : PySem.Str).length = (octL n).length := by simp [PySem.Str.length]
  rw [hl]
  split
  · rename_i h
    have e : k - (octL n).length = 0 := by omega
    unfold octP
    rw [e]
    rfl
  · unfold zfilled
    have hs := octL_signs n
    have hp : Builtin.Str.padded ⟨(octL n).toArray⟩ ((k : Int).toNat - (octL n).length) 0 48 = ⟨(octP n k).toArray⟩ := by
      unfold Builtin.Str.padded octP
      refine Str.ext' ?_
      apply Array.toList_inj.mp
      simp
    cases hL : octL n with
    | nil =>
      have := oct_ne n
      rw [hL] at this
      cases this
    | cons c l =>
      have hc := hs c (by rw [hL]; exact .head _)
      rw [hL] at hp
      have hg : (⟨(c :: l).toArray⟩ : PySem.Str).cps[0]? = some c := by simp
      rw [hg]
      have h43 : c ≠ 43 := by omega
      have h45 : c ≠ 45 := by omega
      split
      · rename_i heq; exact absurd (Option.some.inj heq) h43
      · rename_i heq; exact absurd (Option.some.inj heq) h45
      · exact hp
end Bt
/-! repr of bytes -/
namespace PySem.BtR
open PySem Builtin
theorem slot_bytes_repr : Slot "bytes" "__repr__" "bytes.__repr__" :=
  .of (owner := "bytes") (n := "__repr__") (by rw [typeLookup_type, builtinLookup_eq_fast]; kernel_rfl) (by decide +kernel) (by decide +kernel) (by decide +kernel)
    (by first | exact .inl (by decide +kernel) | exact .inr (by decide +kernel)) (by rw [isSubtype_type]; kernel_rfl)
theorem entry_bytes_repr : entryFor table "bytes.__repr__" = some Builtin.«bytes.__repr__» := entryFor_of_tree (by kernel_rfl)
theorem args_bytes_repr_1 (a : Value) : argsOk "bytes.__repr__" ⟨[a], []⟩ := by
  unfold argsOk; rw [signature?_of (id := "bytes.__repr__") (n := ['_', '_', 'r', 'p', 'e', 'r', '_', '_']) (o := ['s', 'e', 't', 'y', 'b']) (by kernel_rfl) (by first | exact PySem.W.FB.owner_bytes | exact PySem.W.owner_bytes)]; kernel_rfl
theorem gives_bytes_repr (b : Array UInt8) (t : Tok) (h : b.size ≤ 5000) : Gives («bytes.__repr__» ⟨[.bytes b t], []⟩) (.str (Bytes.literal b)) := by
  have e : Str.tooLong (4 * b.size + 3 + 0) = false := by
    unfold Str.tooLong
    rw [sizeLine_eq]
    exact decide_eq_false (by omega)
  show Gives (do
    let z ← (do
      if (Str.tooLong (4 * b.size + 3 + 0) && Str.tooLong (Bytes.literalLength b false + 0)) = true then unsupported "str:memory"
      return Bytes.literal b false)
    retStr z) _
  rw [e, Bool.false_and]
  exact .of_eq rfl
theorem fold_len (f : UInt8 → Array Nat) (hf : ∀ c, (f c).size ≤ 4) : ∀ (l : List UInt8) (acc : Array Nat), (l.foldl (fun acc c => acc ++ f c) acc).size ≤ acc.size + 4 * l.length
  | [], acc => by simp
  | c :: l, acc => by
    rw [List.foldl_cons, List.length_cons]
    have h1 := fold_len f hf l (acc ++ f c)
    have h2 := hf c
    rw [Array.size_append] at h1
    omega
theorem shown_len (q c : Nat) : (if c == q || c == 92 then #[92, c] else if c == 9 then #[92, 116] else if c == 10 then #[92, 110] else if c == 13 then #[92, 114]
    else if c < 32 || c ≥ 127 then #[92, 120, (if c / 16 < 10 then 48 + c / 16 else 87 + c / 16), (if c % 16 < 10 then 48 + c % 16 else 87 + c % 16)] else #[c] : Array Nat).size ≤ 4 := by
  repeat' split
  all_goals simp
theorem literal_len (b : Array UInt8) : (Bytes.literal b).length ≤ 4 * b.size + 3 := by
  unfold Bytes.literal
  show (Array.push (b.foldl _ _) _).size ≤ _
  rw [Array.size_push, ← Array.foldl_toList]
  have h := fold_len (fun c => (if c.toNat == (if b.contains 39 && !b.contains 34 then 34 else 39) || c.toNat == 92 then #[92, c.toNat] else if c.toNat == 9 then #[92, 116] else if c.toNat == 10 then #[92, 110] else if c.toNat == 13 then #[92, 114]
    else if c.toNat < 32 || c.toNat ≥ 127 then #[92, 120, (if c.toNat / 16 < 10 then 48 + c.toNat / 16 else 87 + c.toNat / 16), (if c.toNat % 16 < 10 then 48 + c.toNat % 16 else 87 + c.toNat % 16)] else #[c.toNat] : Array Nat)) (fun c => shown_len _ _) b.toList #[98, (if b.contains 39 && !b.contains 34 then 34 else 39)]
  rw [Array.length_toList] at h
  have h2 : (#[98, (if b.contains 39 && !b.contains 34 then 34 else 39)] : Array Nat).size = 2 := rfl
  rw [h2] at h
  refine Nat.le_trans (Nat.succ_le_succ h) (by omega)
theorem repr_of_bytes {prog : Program} {w : World} {A : Around} {E : Value → Shared → Prop} {s : Shared} {b : Array UInt8} {t : Tok} {Q : Value → Shared → Prop} (hz : b.size ≤ 5000) (h : Q (.str (Bytes.literal b) s.toks) { s with toks := s.toks + 1 }) :
    wpAny (model prog w) A (call (.builtin "repr") [.bytes b t]) Q E s :=
  call_repr_gives (PySem.W.typeIs_bytes s b t) slot_bytes_repr entry_bytes_repr (args_bytes_repr_1 _) (gives_bytes_repr b t hz) h (hx := Nat.le_trans (literal_len b) (by rw [sizeLine_eq]; omega))
end PySem.BtR
/-! values as trees, with bytes in them, and their repr -/
namespace Th
open PySem PySem.Spec PyProof.Rows L2
inductive Tr where
  | non
  | bl (b : Bool)
  | int (i : Int)
  | str (z : Str)
  | byt (y : Array UInt8)
  | lst (ts : List Tr)
  | tup (ts : List Tr)
  | emp
mutual
def Tr.shown : Tr → Str
  | .non => "None"
  | .bl b => if b then "True" else "False"
  | .int i => toString i
  | .str z => reprText z
  | .byt y => Builtin.Bytes.literal y
  | .lst ts => listText (Tr.shownAll ts)
  | .tup ts => tupleText (Tr.shownAll ts)
  | .emp => dictText []
def Tr.shownAll : List Tr → List Str
  | [] => []
  | t :: ts => Tr.shown t :: Tr.shownAll ts
end
mutual
def Tr.ok : Tr → Bool
  | .non => true
  | .bl _ => true
  | .int i => decide (i.natAbs.log2 < 1920)
  | .str z => decide ((reprText z).length ≤ sizeLine)
  | .byt y => decide (y.size ≤ 5000)
  | .lst ts => Tr.okAll ts
  | .tup ts => Tr.okAll ts
  | .emp => true
def Tr.okAll : List Tr → Bool
  | [] => true
  | t :: ts => Tr.ok t && Tr.okAll ts
end
mutual
def Tr.depth : Tr → Nat
  | .lst ts => Tr.depthAll ts + 1
  | .tup ts => Tr.depthAll ts + 1
  | .emp => 1
  | _ => 0
def Tr.depthAll : List Tr → Nat
  | [] => 0
  | t :: ts => max (Tr.depth t) (Tr.depthAll ts)
end
mutual
/-- the value denotes the tree -/
inductive Dn (H : Hp) : V → Tr → Prop
  | non : Dn H .non .non
  | bl (b : Bool) : Dn H (.bl b) (.bl b)
  | int (i : Int) : Dn H (.int i) (.int i)
  | str (z : Str) : Dn H (.str z) (.str z)
  | byt (y : Array UInt8) : Dn H (.byt y) (.byt y)
  | lst {a : Addr} {xs : List V} {ts : List Tr} : H a = some (.lst xs) → DnA H xs ts → Dn H (.ref a) (.lst ts)
  | tup {a : Addr} {xs : List V} {ts : List Tr} : H a = some (.tup xs) → DnA H xs ts → Dn H (.ref a) (.tup ts)
  | emp {a : Addr} : H a = some (.dK []) → Dn H (.ref a) .emp
inductive DnA (H : Hp) : List V → List Tr → Prop
  | nil : DnA H [] []
  | cons {x : V} {t : Tr} {xs : List V} {ts : List Tr} : Dn H x t → DnA H xs ts → DnA H (x :: xs) (t :: ts)
end
mutual
theorem Dn.inj {H : Hp} : ∀ {v : V} {t u : Tr}, Dn H v t → Dn H v u → t = u
  | _, _, _, .non, .non => rfl
  | _, _, _, .bl _, .bl _ => rfl
  | _, _, _, .int _, .int _ => rfl
  | _, _, _, .str _, .str _ => rfl
  | _, _, _, .byt _, .byt _ => rfl
  | _, _, _, .lst h1 d1, .lst h2 d2 => by
    rw [h1] at h2
    cases h2
    rw [DnA.inj d1 d2]
  | _, _, _, .lst h1 d1, .tup h2 d2 => by
    rw [h1] at h2
    cases h2
  | _, _, _, .tup h1 d1, .lst h2 d2 => by
    rw [h1] at h2
    cases h2
  | _, _, _, .tup h1 d1, .tup h2 d2 => by
    rw [h1] at h2
    cases h2
    rw [DnA.inj d1 d2]
  | _, _, _, .emp _, .emp _ => rfl
  | _, _, _, .emp h1, .lst h2 d2 => by
    rw [h1] at h2
    cases h2
  | _, _, _, .emp h1, .tup h2 d2 => by
    rw [h1] at h2
    cases h2
  | _, _, _, .lst h1 d1, .emp h2 => by
    rw [h1] at h2
    cases h2
  | _, _, _, .tup h1 d1, .emp h2 => by
    rw [h1] at h2
    cases h2
theorem DnA.inj {H : Hp} : ∀ {xs : List V} {ts us : List Tr}, DnA H xs ts → DnA H xs us → ts = us
  | _, _, _, .nil, .nil => rfl
  | _, _, _, .cons a r, .cons b q => by rw [Dn.inj a b, DnA.inj r q]
end
mutual
theorem Dn.same {H H' : Hp} (e : ∀ b o, H b = some o → H' b = some o) : ∀ {v : V} {t : Tr}, Dn H v t → Dn H' v t
  | _, _, .non => .non
  | _, _, .bl _ => .bl _
  | _, _, .int _ => .int _
  | _, _, .str _ => .str _
  | _, _, .byt _ => .byt _
  | _, _, .lst h d => .lst (e _ _ h) (DnA.same e d)
  | _, _, .tup h d => .tup (e _ _ h) (DnA.same e d)
  | _, _, .emp h => .emp (e _ _ h)
theorem DnA.same {H H' : Hp} (e : ∀ b o, H b = some o → H' b = some o) : ∀ {xs : List V} {ts : List Tr}, DnA H xs ts → DnA H' xs ts
  | _, _, .nil => .nil
  | _, _, .cons a r => .cons (Dn.same e a) (DnA.same e r)
end
theorem pyReprObj_bytes {prog : Program} {w : World} {A : Around} {E : Value → Shared → Prop} {s : Shared} {b : Array UInt8} {t : Tok} {Q : Value → Shared → Prop} (hz : b.size ≤ 5000) (h : Q (.str (Builtin.Bytes.literal b) s.toks) { s with toks := s.toks + 1 }) : wpAny (model prog w) A (pyReprObj (.bytes b t)) Q E s :=
  wpAny_pyReprObj_gives (PySem.W.typeIs_bytes s b t) PySem.BtR.slot_bytes_repr PySem.BtR.entry_bytes_repr (PySem.BtR.args_bytes_repr_1 _) (PySem.BtR.gives_bytes_repr b t hz) h (hx := Nat.le_trans (PySem.BtR.literal_len b) (by rw [sizeLine_eq]; omega))
theorem reprIs_bytes {prog : Program} {w : World} (b : Array UInt8) (t : Tok) (hz : b.size ≤ 5000) : ReprIs prog w (.bytes b t) (Builtin.Bytes.literal b) := fun n hn _ _ _ _ h => by
  have hn' : n ≤ sizeLine := by omega
  rw [pyReprUnder_leaf (v := .bytes b t) hn' (fun _ e => nomatch e)]
  unfold pyRepr
  exact wpAny_bind (pyReprObj_bytes hz (wpAny_pure (h _)))
section
variable {X : Cx} {pins : List (Addr × Obj)} {σ : L2.St} {H : Hp} {s : Shared}
mutual
theorem Dn.reprK (I : Inv X pins σ H s) : ∀ {v : V} {t : Tr} {u : Value}, Dn H v t → t.ok = true → RelV v u → t.shown.length ≤ sizeLine →
    ∃ bs : List Addr, (∀ b ∈ bs, ∃ t', Dn H (.ref b) t' ∧ t'.depth ≤ t.depth) ∧ ReprK X.prog X.w bs s.heap t.depth u t.shown
  | _, _, _, .non, _, r, _ => by
    cases (show _ = Value.none from r)
    exact ⟨[], (fun _ h => nomatch h), by simp only [Tr.shown]; exact .of_is ReprIs.none _ _ _⟩
  | _, _, _, .bl b, _, r, _ => by
    cases (show _ = Value.bool b from r)
    exact ⟨[], (fun _ h => nomatch h), by simp only [Tr.shown]; exact .of_is (ReprIs.bool b) _ _ _⟩
  | _, _, _, .int i, hk, r, _ => by
    obtain ⟨t, rfl⟩ := (show ∃ t, _ = Value.int i t from r)
    exact ⟨[], (fun _ h => nomatch h), by simp only [Tr.shown]; exact .of_is (ReprIs.int t (by simpa [Tr.ok] using hk)) _ _ _⟩
  | _, _, _, .str z, hk, r, _ => by
    obtain ⟨t, rfl⟩ := (show ∃ t, _ = Value.str z t from r)
    exact ⟨[], (fun _ h => nomatch h), by simp only [Tr.shown]; exact .of_is (ReprIs.str z t (by simpa [Tr.ok] using hk)) _ _ _⟩
  | _, _, _, .byt y, hk, r, _ => by
    obtain ⟨t, rfl⟩ := (show ∃ t, _ = Value.bytes y t from r)
    exact ⟨[], (fun _ h => nomatch h), by simp only [Tr.shown]; exact .of_is (reprIs_bytes y t (by simpa [Tr.ok] using hk)) _ _ _⟩
  | _, _, _, .lst (a := a) (xs := xs) (ts := ts) h1 d1, hk, r, hz => by
    cases (show _ = Value.ref a from r)
    obtain ⟨_, its, n, rv, hle, e⟩ := I.lstM h1
    have hz' : (listText (Tr.shownAll ts)).length ≤ sizeLine := by simpa only [Tr.shown] using hz
    obtain ⟨bs, hb, k⟩ := DnA.reprK I d1 (by simpa [Tr.ok] using hk) rv (fun t ht => Nat.le_trans (listText_mem_le ht) hz')
    have hna : a ∉ bs := fun hm => by
      obtain ⟨t', d', hd'⟩ := hb a hm
      rw [Dn.inj d' (.lst h1 d1)] at hd'
      simp only [Tr.depth] at hd'
      omega
    refine ⟨a :: bs, fun b hm => ?_, ?_⟩
    · rcases List.mem_cons.mp hm with rfl | hm
      · exact ⟨_, .lst h1 d1, Nat.le_refl _⟩
      · obtain ⟨t', d', hd'⟩ := hb b hm
        exact ⟨t', d', by simp only [Tr.depth]; omega⟩
    · simp only [Tr.depth, Tr.shown]
      cases its with
      | nil =>
        have hx : xs = [] := by cases rv; rfl
        subst hx
        cases d1
        simp only [Tr.shownAll, listText_nil]
        exact ReprK.listEmpty e rfl rfl
      | cons x l => exact ReprK.list e rfl rfl hna (by simpa using k.length_eq) (fun i y e => k.item i y (by simpa using e))
  | _, _, _, .tup (a := a) (xs := xs) (ts := ts) h1 d1, hk, r, hz => by
    cases (show _ = Value.ref a from r)
    obtain ⟨_, its, rv, o, e1, e2, n, e3⟩ := (show ObjOk X.prog X.w H s.heap a (.tup xs) from I.hok a _ h1)
    have hz' : (tupleText (Tr.shownAll ts)).length ≤ sizeLine := by simpa only [Tr.shown] using hz
    obtain ⟨bs, hb, k⟩ := DnA.reprK I d1 (by simpa [Tr.ok] using hk) rv (fun t ht => Nat.le_trans (tupleText_mem_le ht) hz')
    have hna : a ∉ bs := fun hm => by
      obtain ⟨t', d', hd'⟩ := hb a hm
      rw [Dn.inj d' (.tup h1 d1)] at hd'
      simp only [Tr.depth] at hd'
      omega
    refine ⟨a :: bs, fun b hm => ?_, ?_⟩
    · rcases List.mem_cons.mp hm with rfl | hm
      · exact ⟨_, .tup h1 d1, Nat.le_refl _⟩
      · obtain ⟨t', d', hd'⟩ := hb b hm
        exact ⟨t', d', by simp only [Tr.depth]; omega⟩
    · simp only [Tr.depth, Tr.shown]
      exact ReprK.tuple e1 e2 e3 hna (by simpa using k)
  | _, _, _, .emp (a := a) h1, hk, r, hz => by
    cases (show _ = Value.ref a from r)
    obtain ⟨_, hsys, vs, kv, o, es, ep, e1, ex, e2, _, pr, _⟩ := (show ObjOk X.prog X.w H s.heap a (.dK []) from I.hok a _ h1)
    refine ⟨[a], fun b hm => ?_, ?_⟩
    · rw [List.mem_singleton.mp hm]; exact ⟨_, .emp h1, Nat.le_refl _⟩
    · simp only [Tr.depth, Tr.shown]
      cases kv
      refine ReprK.dict (as := []) e1 ex.1 e2 hsys (fun h => nomatch h) ?_
      have e3 : es.toList = [] := by cases q : es.toList with
        | nil => rfl
        | cons x l => rw [q] at pr; cases pr
      rw [e3]; exact .nil
theorem DnA.reprK (I : Inv X pins σ H s) : ∀ {xs : List V} {ts : List Tr} {us : List Value}, DnA H xs ts → Tr.okAll ts = true → Vals xs us → (∀ t ∈ Tr.shownAll ts, t.length ≤ sizeLine) →
    ∃ bs : List Addr, (∀ b ∈ bs, ∃ t', Dn H (.ref b) t' ∧ t'.depth ≤ Tr.depthAll ts) ∧ ReprAllK X.prog X.w bs s.heap (Tr.depthAll ts) us (Tr.shownAll ts)
  | _, _, _, .nil, _, r, _ => by
    cases r
    exact ⟨[], (fun _ h => nomatch h), by simp only [Tr.shownAll]; exact .nil⟩
  | _, _, _, .cons (t := t) (ts := ts) d dd, hk, r, hz => by
    cases r with
    | cons r1 r2 =>
      have hk' : t.ok = true ∧ Tr.okAll ts = true := by simpa [Tr.okAll] using hk
      obtain ⟨b1, hb1, k1⟩ := Dn.reprK I d hk'.1 r1 (hz _ (by simp only [Tr.shownAll]; exact List.mem_cons_self ..))
      obtain ⟨b2, hb2, k2⟩ := DnA.reprK I dd hk'.2 r2 (fun z hm => hz z (by simp only [Tr.shownAll]; exact List.mem_cons_of_mem _ hm))
      refine ⟨b1 ++ b2, fun b hm => ?_, ?_⟩
      · rcases List.mem_append.mp hm with hm | hm
        · obtain ⟨t', d', h'⟩ := hb1 b hm
          exact ⟨t', d', by simp only [Tr.depthAll]; omega⟩
        · obtain ⟨t', d', h'⟩ := hb2 b hm
          exact ⟨t', d', by simp only [Tr.depthAll]; omega⟩
      · simp only [Tr.shownAll, Tr.depthAll]
        exact .cons ((k1.more fun b hb => List.mem_append_left _ hb).level_le (Nat.le_max_left ..)) (k2.more_le (fun b hb => List.mem_append_right _ hb) (Nat.le_max_right ..))
end
end
def rReprT : List V → Hp → VK → Prop := fun xs H Q => ∃ v t, xs = [v] ∧ Dn H v t ∧ t.ok = true ∧ t.depth < 40 ∧ t.shown.length ≤ sizeLine ∧ Q (.str t.shown) H
theorem call_rReprT {X : Cx} (gd : X.A.guards = some []) (hu : X.A.units + 64 < cLine) : CallR X (.builtin "repr") rReprT := by
  intro pins s σ H xs us Q I r h
  obtain ⟨v, t, rfl, d, hk, hd, hz, q⟩ := h
  obtain ⟨u, rfl, rx⟩ := vals1 r
  have q1 : ∀ (tk tk' : Nat), EP X pins σ Q (.str t.shown tk) { s with toks := tk' } := fun tk tk' => ⟨.str t.shown, H, I.tok _, ⟨_, rfl⟩, q⟩
  cases d with
  | non =>
    cases (show u = Value.none from rx)
    simp only [Tr.shown] at q1
    exact call_repr_gives (typeIs_none s) F.slot_NoneType_repr F.entry_NoneType_repr (F.args_NoneType_repr_1 _) gives_none_repr (q1 _ _) (hx := by decide)
  | bl b =>
    cases (show u = Value.bool b from rx)
    simp only [Tr.shown] at q1
    exact call_repr_gives (PySem.typeIs_bool s b) F.slot_bool_repr F.entry_bool_repr (F.args_bool_repr_1 _) (gives_bool_repr b) (q1 _ _) (hx := by cases b <;> decide)
  | int i =>
    obtain ⟨tk, rfl⟩ := (show ∃ t, u = Value.int i t from rx)
    simp only [Tr.shown] at q1
    have ha : i.natAbs.log2 < 1920 := by simpa [Tr.ok] using hk
    exact call_repr_gives (typeIs_int s i tk) F.slot_int_repr F.entry_int_repr (F.args_int_repr_1 _) (gives_int_repr i tk ha) (q1 _ _) (hx := int_text_fits ha)
  | str z =>
    obtain ⟨tk, rfl⟩ := (show ∃ t, u = Value.str z t from rx)
    simp only [Tr.shown] at q1
    exact call_repr_gives (typeIs_str s z tk) F.slot_str_repr F.entry_str_repr (F.args_str_repr_1 _) (gives_str_repr z tk) (q1 _ _) (hx := by simpa [Tr.ok] using hk)
  | byt y =>
    obtain ⟨tk, rfl⟩ := (show ∃ t, u = Value.bytes y t from rx)
    simp only [Tr.shown] at q1
    exact PySem.BtR.repr_of_bytes (by simpa [Tr.ok] using hk) (q1 _ _)
  | @lst a xs ts h1 d1 =>
    cases (show u = Value.ref a from rx)
    obtain ⟨_, its, n, rv, hle, e⟩ := I.lstM h1
    have hz' : (listText (Tr.shownAll ts)).length ≤ sizeLine := by simpa only [Tr.shown] using hz
    obtain ⟨bs, hb, k⟩ := DnA.reprK I d1 (by simpa [Tr.ok] using hk) rv (fun t ht => Nat.le_trans (listText_mem_le ht) hz')
    have hna : a ∉ bs := fun hm => by
      obtain ⟨t', d', hd'⟩ := hb a hm
      rw [Dn.inj d' (.lst h1 d1)] at hd'
      simp only [Tr.depth] at hd'
      omega
    simp only [Tr.shown] at q
    simp only [Tr.depth] at hd
    refine call_repr_slot (by omega) ⟨_, e, rfl⟩ F.slot_list_repr.toG ?_
    cases its with
    | nil =>
      have hx : xs = [] := by cases rv; rfl
      subst hx
      cases d1
      simp only [Tr.shownAll, listText_nil] at q
      exact call_list_repr_empty ⟨_, e, rfl⟩ e rfl ⟨_, _, rfl, .str _, H, I.tok _, ⟨_, rfl⟩, q⟩
    | cons x l =>
      exact call_list_reprK e rfl rfl hna (by simpa using k.length_eq) (fun i y e => k.item i y (by simpa using e)) gd (fun b _ => Clear.nil b) (by show X.A.units + 1 + _ < _; omega) (fun b o e => e) (fun h' u tk kept => ⟨_, _, rfl, .str _, H, I.kept kept, ⟨_, rfl⟩, q⟩) hz'
  | @tup a xs ts h1 d1 =>
    cases (show u = Value.ref a from rx)
    obtain ⟨_, its, rv, o, e1, e2, n, e3⟩ := (show ObjOk X.prog X.w H s.heap a (.tup xs) from I.hok a _ h1)
    have hz' : (tupleText (Tr.shownAll ts)).length ≤ sizeLine := by simpa only [Tr.shown] using hz
    obtain ⟨bs, hb, k⟩ := DnA.reprK I d1 (by simpa [Tr.ok] using hk) rv (fun t ht => Nat.le_trans (tupleText_mem_le ht) hz')
    have hna : a ∉ bs := fun hm => by
      obtain ⟨t', d', hd'⟩ := hb a hm
      rw [Dn.inj d' (.tup h1 d1)] at hd'
      simp only [Tr.depth] at hd'
      omega
    simp only [Tr.shown] at q
    simp only [Tr.depth] at hd
    refine call_repr_slot (by omega) ⟨_, e1, e2⟩ F.slot_tuple_repr ?_
    exact call_tuple_reprK e1 e2 e3 hna (by simpa using k) gd (fun b _ => Clear.nil b) (by show X.A.units + 1 + _ < _; omega) (fun b o e => e) (fun h' u tk kept => ⟨_, _, rfl, .str _, H, I.kept kept, ⟨_, rfl⟩, q⟩) hz'
  | @emp a h1 =>
    cases (show u = Value.ref a from rx)
    obtain ⟨_, hsys, vs, kv, o, es, ep, e1, ex, e2, _, pr, _⟩ := (show ObjOk X.prog X.w H s.heap a (.dK []) from I.hok a _ h1)
    cases kv
    have e3 : es.toList = [] := by cases q : es.toList with
      | nil => rfl
      | cons x l => rw [q] at pr; cases pr
    simp only [Tr.shown] at q
    refine call_repr_slot (by omega) ⟨_, e1, ex.1⟩ F.slot_dict_repr ?_
    exact call_dict_reprK (as := []) (d := 0) (ps := []) e1 ex.1 e2 hsys (fun h => nomatch h) (by rw [e3]; exact .nil) gd (fun b _ => Clear.nil b) (by show X.A.units + 1 + _ < _; omega) (fun b o e => e) (fun h' u tk kept => ⟨_, _, rfl, .str _, H, I.kept kept, ⟨_, rfl⟩, q⟩) (by decide +kernel)
end Th
/-! several clauses «except x as n», one of which takes what comes -/
namespace Th
open PySem PySem.Spec PyProof.Rows L2
def asEnds (D : Ends) (i : Nat) : Ends := { nx := fun τ G => D.nx (τ.set i none) G, rt := D.rt, bk := fun τ G => D.bk (τ.set i none) G, ct := fun τ G => D.ct (τ.set i none) G }
abbrev Clause := Value × Nat × (Addr → Value → Option Addr → TS)
def wClauses (K : PySem.W.Frag) (D : Ends) : List Clause → WX
  | [] => fun _ _ _ _ => False
  | q :: r => fun kl dd τ G => ∃ m, PySem.W.exmOne K kl q.1 = some m ∧ (m = true → ∀ y, G y = none → q.2.2 y kl dd (asEnds D q.2.1) (τ.set q.2.1 (some (.ref y))) G) ∧ (m = false → wClauses K D r kl dd τ G)
inductive Clauses (X : Cx) : List ExceptHandler → List Clause → Prop
  | nil : Clauses X [] []
  | cons {x n : Str} {cv : Value} {i : Nat} {ts : Addr → Value → Option Addr → TS} {st : Stmt} {more : List Stmt} {np hp : Pos} {hds : List ExceptHandler} {l : List Clause} (named : Names X x cv) (slot : X.N[i]? = some n) (lcl : X.env.kindOf n = some .local)
      (suite : ∀ (y : Addr) (oy : Obj) (kl : Value) (dd : Option Addr) (pn : List (Addr × Obj)), Zc kl dd oy → (∃ fv, oy.data = .fields fv) → PSs (X.suite y ((y, oy) :: pn)) (st :: more) (ts y kl dd)) (rest : Clauses X hds l) :
      Clauses X (.ExceptHandler (some (.Name x np)) (some n) (st :: more) hp :: hds) ((cv, i, ts) :: l)
section
variable {X : Cx} {body : List Stmt} {h₀ : ExceptHandler} {hds : List ExceptHandler} {l : List Clause} {pos : Pos} {tb : WX → TS}
theorem ps_clauses (hs : X.stack = X.env :: X.outer) (hf : X.env.frame = some X.env.locals) (nd : X.N.Nodup)
    (hb : ∀ (W : WX) (pn : List (Addr × Obj)) (xe : Value → Shared → Prop), Takes (X.tr pn xe) W → PassesOwn (model X.prog X.w) X.A X.env xe → PSs (X.tr pn xe) body (tb W)) (hh : Clauses X (h₀ :: hds) l) :
    PS X (.Try body (h₀ :: hds) [] [] pos) (fun D τ G => tb (wClauses X.K D l) D τ G) := by
  constructor
  intro pins s τ G D I told
  have ok := I.ok
  refine wpAny_Try_except ?_
  refine wpAny_mono ((hb (wClauses X.K D l) (X.pn ++ pins) (fun er s₁ => wpAny (model X.prog X.w) X.A (noteFrame er X.env) (fun _ s₂ => wpAny (model X.prog X.w) X.A (setFlight er none) (fun _ s₃ => wpAny (model X.prog X.w) X.A (handleBy er X.env (h₀ :: hds)) (SP X pins D) X.xe s₃) X.xe s₂) X.xe s₁)
      (fun er t zz => ?taken) PassesOwn.looking).run [] s τ G D (I.toTry _) told) (fun fl t done => ?_) (fun _ _ z => z)
  case taken =>
    obtain ⟨y, B, t0, pins1, τ1, G1, kl, dd, rfl, J1, nb, up, sky, ny, os, ag, wish⟩ := zz
    have J := J1.ofTry ok
    rw [hs] at sky
    show wpAny _ X.A (noteFrame (.ref y) X.env) _ _ t
    refine Sky.land Zc.steady (ok.frames.trans (congrArg some hs)) hf sky fun g3 l3 u3 => ?_
    have J3 : Inv X pins τ1 G1 { t with heap := g3 } := J.landed nb l3.1 (up.trans u3) os ag
    obtain ⟨oy, fv, hy, zy, fy⟩ := l3.there
    have away : y ∉ frs (X.env :: X.outer) := fun hm => by
      obtain ⟨_, o2, h2, n2⟩ := l3.2.2.1.mem hm
      obtain rfl : oy = o2 := Option.some.inj (hy.symm.trans h2)
      exact n2 _ fy
    have yL : y ≠ X.env.locals := fun z => away (List.mem_filterMap.mpr ⟨_, List.mem_cons_self, by rw [hf, z]⟩)
    have yF : y ∉ X.fs := fun hm => by
      obtain ⟨e1, m1, q1⟩ := List.mem_filterMap.mp hm
      exact away (List.mem_filterMap.mpr ⟨e1, List.mem_cons_of_mem _ m1, q1⟩)
    have S3 := J3.suite hy fy ny yL yF
    revert wish
    generalize h₀ :: hds = all at hh
    clear hb told
    induction hh with
    | nil => exact fun z => False.elim z
    | @cons x n cv i ts st more np hp hds2 l2 named slot lcl suite rest ih =>
      rintro ⟨m, hm, yes, no⟩
      have reads : ∀ {Q : Value → Shared → Prop} {E : Value → Shared → Prop}, Q cv { t with heap := g3 } → wpAny (model X.prog X.w) (X.A.mark (some (.ref y))) (eval (.Name x np) X.env) Q E { t with heap := g3 } := fun q => by
        obtain ⟨hg, hdb, hm1 | ⟨hm1, hv, hnn⟩⟩ := named
        · exact ld_glob (X := X.suite y ((y, oy) :: (X.pn ++ pins))) S3 hg hm1 q hdb
        · exact ld_blt (X := X.suite y ((y, oy) :: (X.pn ++ pins))) S3 hg hm1 hv q hnn hdb
      have kind : PySem.W.Looks (model X.prog X.w) g3 (typeOf (.ref y)) kl := fun A1 Q1 E1 s1 k1 q1 => wpAny_typeOf_ref (k1 _ _ hy) (by rw [zy.1]; exact q1)
      refine wpAny_handleBy_cons (codeAny_handlers_test (reads ((PySem.W.exm_one (M := model X.prog X.w) J3.kIn kind hm).here ?_))) (by intro z; cases z)
      cases m with
      | false => exact ih (no rfl)
      | true =>
        refine codeAny_handlers_suite_as (HandSPX.lands_againZ l3 fun g4 l4 u4 => ?_)
        obtain ⟨oy4, fv4, hy4, zy4, fy4⟩ := l4.there
        have J4 : Inv X pins τ1 G1 { t with heap := g4 } := J.landed nb l4.1 ((up.trans u3).trans u4) os ag
        have S4 := J4.suite hy4 fy4 ny yL yF
        refine store_ok (X := X.suite y ((y, oy4) :: (X.pn ++ pins))) (v := .ref y) S4 nd slot (.inl lcl) rfl (fun t5 S5 => ?_) (.inr lcl)
        refine wpAny_mono ((suite y oy4 kl dd (X.pn ++ pins) zy4 ⟨_, fy4⟩).run [] t5 _ G1 _ S5 (yes rfl y ny)) (fun fl t6 done => ?_) (fun _ _ z => False.elim z)
        cases fl <;> first
          | (obtain ⟨τ6, G6, S6, q6⟩ := done; exact gone_ok (S6.unsuite ok) nd slot lcl fun _ J7 => ⟨_, _, J7, q6⟩)
          | (obtain ⟨v6, τ6, G6, S6, r6, q6⟩ := done; exact gone_ok (S6.unsuite ok) nd slot lcl fun _ J7 => ⟨_, _, _, J7, r6, q6⟩)
  · cases fl <;> first
      | (obtain ⟨τ1, G1, J1, q1⟩ := done; first | exact wpAny_execs_nil ⟨τ1, G1, J1.ofTry ok, q1⟩ | exact ⟨τ1, G1, J1.ofTry ok, q1⟩)
      | (obtain ⟨v1, τ1, G1, J1, r1, q1⟩ := done; exact ⟨v1, τ1, G1, J1.ofTry ok, r1, q1⟩)
end
end Th
namespace Th
open PySem PySem.Spec PyProof.Rows L2
local macro_rules | `(tactic| walk_at "lk") => `(tactic| first
  | assumption
  | exact upd_same
  | (refine upd_old (by assumption) ?_; walk_at "lk")
  | (refine upd_diff (by assumption) ?_; walk_at "lk")
  | (refine upd_diff (Ne.symm (by assumption)) ?_; walk_at "lk"))
local macro_rules | `(tactic| walk_at "cnd") => `(tactic| first
  | omega
  | (refine ⟨by omega, by omega⟩)
  | (refine ⟨by omega, by omega, by omega⟩)
  | (refine .inl ⟨by omega, by omega⟩)
  | (refine .inr ⟨by omega, by omega⟩)
  | (exact (show CPow _ _ from ⟨by decide, by decide, by omega⟩))
  | decide +kernel
  | (unfold CMulW; decide +kernel)
  | (exact wide_div (b := 64) (by omega) (by omega) (by decide) (by decide)))
local macro_rules | `(tactic| walk_at "rd1") => `(tactic| first
  | (with_reducible refine r_seq ?_)
  | (with_reducible refine r_asg ?_)
  | (with_reducible refine r_ret ?_)
  | (with_reducible refine r_if ?_)
  | (with_reducible refine r_gname ?_)
  | ((with_reducible refine' r_var ?hv ?_); (case hv => exact rfl))
  | (with_reducible refine r_c ?_)
  | (with_reducible refine r_op ?_)
  | (with_reducible refine r_I0 ?_)
  | ((with_reducible refine r_I ?hc ?_); (case hc => walk_at "cnd"))
  | (with_reducible refine r_test ?_)
  | (with_reducible refine r_tB ?_)
  | (with_reducible refine r_bl ?_)
  | (with_reducible refine r_not ?_)
  | (with_reducible refine r_and ?_)
  | (with_reducible refine r_or ?_)
  | (with_reducible refine r_ifE ?_)
  | (with_reducible refine r_notV ?_)
  | (with_reducible refine r_andV ?_)
  | (with_reducible refine r_orV ?_)
  | (with_reducible refine r_chain ?_)
  | (with_reducible refine r_cb ?_)
  | (with_reducible refine r_call ?_)
  | (with_reducible refine r_callN ?_)
  | (with_reducible refine r_nil ?_)
  | (with_reducible refine r_cons ?_)
  | ((with_reducible refine r_lst ?_))
  | ((with_reducible refine r_tup ?_))
  | ((with_reducible refine r_new ?_ ?_); (exact Nat.le_of_ble_eq_true rfl); (intro p hp))
  | (with_reducible refine r_rInt1 ?_)
  | (with_reducible refine r_rIntB ?_)
  | (with_reducible refine r_rAbs ?_)
  | (with_reducible refine r_rMin2 ?_)
  | (with_reducible refine r_rMax2 ?_)
  | ((with_reducible refine r_rLenZ ?hz ?_); (case hz => first | assumption | exact Nat.le_of_ble_eq_true rfl | (refine Nat.le_trans ?_ (by decide : 100000 ≤ sizeLine); omega)))
  | ((with_reducible refine r_addZ ?hz ?_); (case hz => (refine Nat.le_trans ?_ (by decide : 100000 ≤ sizeLine); first | omega | (simp only [Str.length] at *; simp; omega))))
  | ((with_reducible refine r_mulZ ?hz ?h0 ?h1 ?_); (case hz => first | omega | exact Nat.le_of_ble_eq_true rfl); (case h0 => omega); (case h1 => omega))
  | ((with_reducible refine' r_rLenQ ?h1 ?_); (case h1 => first | (exact .inl (by assumption)) | (exact .inr (by assumption)) | (exact .inl (SqL.of (by walk_at "lk"))) | (exact .inr (SqT.of (by walk_at "lk")))))
  | ((with_reducible refine r_eq ?hs ?_); (case hs => exact rfl))
  | ((with_reducible refine r_ne ?hs ?_); (case hs => exact rfl))
  | (with_reducible refine r_inC ?_)
  | ((with_reducible refine' r_cat ?h1 ?h2 ?h3 ?_); (case h1 => walk_at "lk"); (case h2 => walk_at "lk"); (case h3 => exact Nat.le_of_ble_eq_true rfl); (intro p hp))
  | ((with_reducible refine' r_rep ?h1 ?h2 ?h3 ?h4 ?_); (case h1 => walk_at "lk"); (case h2 => omega); (case h3 => omega); (case h4 => exact Nat.le_of_ble_eq_true rfl); (intro p hp))
  | ((with_reducible refine' r_append ?h1 ?h2 ?_); (case h1 => walk_at "lk"); (case h2 => first | exact (show _ + 1 ≤ sizeLine from Nat.le_of_ble_eq_true rfl) | exact Nat.lt_of_le_of_lt (by omega : _ ≤ 100000) (by decide)))
  | (with_reducible refine r_bm ?_)
  | ((with_reducible refine' r_tyL ?h1 ?_); (case h1 => walk_at "lk"))
  | ((with_reducible refine' r_ixL ?h1 ?h2 ?_); (case h1 => first | assumption | exact SqL.of (by walk_at "lk")); (case h2 => exact rfl))
  | ((with_reducible refine' r_ixT ?h1 ?h2 ?_); (case h1 => first | assumption | exact SqT.of (by walk_at "lk")); (case h2 => exact rfl))
  | (with_reducible refine r_gsub ?_)
  | ((with_reducible refine' r_setL ?h1 ?h2 ?_); (case h1 => walk_at "lk"); (case h2 => exact rfl))
  | (with_reducible refine r_un ?_)
  | (with_reducible refine r_neg ?_)
  | (with_reducible refine r_iteT ?_)
  | (with_reducible refine r_iteNT ?_)
  | (with_reducible refine r_iteNF ?_)
  | (with_reducible refine r_iteF ?_)
  | (with_reducible refine r_next ?_)
  | (with_reducible refine r_drop ?_)
  | (with_reducible refine r_cont ?_)
  | (with_reducible refine r_brk ?_))
local macro_rules | `(tactic| walk_at "ty") => `(tactic| first
  | assumption
  | exact .base (.int _)
  | exact .base (.str _)
  | exact .base (.bl _)
  | exact .base .non
  | exact .byt _
  | exact .base (.lst (by walk_at "lk"))
  | exact .base (.tup (by walk_at "lk")))
local macro_rules | `(tactic| walk_at "rd2") => `(tactic| first
  | walk_at "rd1"
  | ((with_reducible refine' r_isi true ?ht ?hk ?_); (case ht => walk_at "ty"); (case hk => first | assumption | decide +kernel))
  | ((with_reducible refine' r_isi false ?ht ?hk ?_); (case ht => walk_at "ty"); (case hk => first | assumption | decide +kernel))
  | ((with_reducible refine' r_isiT2 true true ?hT ?ht ?hk ?hk2 ?_); (case hT => walk_at "lk"); (case ht => walk_at "ty"); (case hk => decide +kernel); (case hk2 => decide +kernel))
  | ((with_reducible refine' r_isiT2 true false ?hT ?ht ?hk ?hk2 ?_); (case hT => walk_at "lk"); (case ht => walk_at "ty"); (case hk => decide +kernel); (case hk2 => decide +kernel))
  | ((with_reducible refine' r_isiT2 false true ?hT ?ht ?hk ?hk2 ?_); (case hT => walk_at "lk"); (case ht => walk_at "ty"); (case hk => decide +kernel); (case hk2 => decide +kernel))
  | ((with_reducible refine' r_isiT2 false false ?hT ?ht ?hk ?hk2 ?_); (case hT => walk_at "lk"); (case ht => walk_at "ty"); (case hk => decide +kernel); (case hk2 => decide +kernel))
  | (with_reducible refine r_iteNT ?_)
  | ((show (if (!true) = true then _ else _)); refine r_iteNT ?_)
  | (with_reducible refine r_r1 ?_)
  | (with_reducible refine r_maks ?_)
  | (with_reducible refine r_sfld ?_)
  | ((with_reducible refine' r_sfldE ?h1 ?h2 ?h3 ?h4 ?_); (case h1 => walk_at "lk"); (case h2 => assumption); (case h3 => assumption); (case h4 => exact (show _ + 1 ≤ 1000 from Nat.le_of_ble_eq_true rfl)))
  | (with_reducible refine r_fld ?_)
  | (with_reducible refine r_join ?_)
  | (with_reducible refine r_jcons ?_)
  | (with_reducible refine r_jnil ?_)
  | ((with_reducible refine r_rLenY ?hz ?_); (case hz => first | assumption | (refine Nat.le_trans ?_ (by decide : 100000 ≤ sizeLine); omega)))
  | (with_reducible refine r_par ?_)
  | (with_reducible refine r_pair ?_)
  | (with_reducible refine r_par3 ?_)
  | (with_reducible refine r_trip ?_)
  | ((with_reducible refine' r_gtup ?h1 ?h2 ?_); (case h1 => first | assumption | exact SqT.of (by walk_at "lk")); (case h2 => exact rfl))
  | (with_reducible refine r_gcons ?_)
  | (with_reducible refine r_gnil ?_)
  | ((with_reducible refine' r_slL ?h1 ?_); (case h1 => first | assumption | exact SqL.of (by walk_at "lk")); (intro p hp))
  | (with_reducible refine r_iTup ?_)
  | ((with_reducible refine' r_tupE ?h1 ?_); (case h1 => first | assumption | exact SqT.of (by walk_at "lk")))
  | (with_reducible refine r_m1 ?_)
  | (with_reducible refine r_isZ ?_)
  | (with_reducible refine r_sl ?_)
  | (with_reducible refine r_noPart ?_)
  | (with_reducible refine r_part ?_)
  | (with_reducible refine r_partE ?_)
  | ((with_reducible refine r_slS ?hz ?_); (case hz => first | assumption | (refine Nat.le_trans ?_ (by decide : 100000 ≤ sizeLine); omega)))
  | ((with_reducible refine' r_inT ?h1 ?h2 ?h3 ?_); (case h1 => first | assumption | (exact SqT.of (by walk_at "lk"))); (case h2 => exact rfl); (case h3 => exact rfl))
  | ((with_reducible refine' r_inL ?h1 ?h2 ?h3 ?_); (case h1 => first | assumption | (exact SqL.of (by walk_at "lk"))); (case h2 => exact rfl); (case h3 => exact rfl))
  | (with_reducible refine r_lc ?_)
  | (with_reducible refine r_for ?_)
  | (with_reducible refine r_iStr ?_)
  | (with_reducible refine r_strE ?_)
  | (with_reducible refine r_iList ?_)
  | ((with_reducible refine' r_listE ?h1 ?_); (case h1 => first | assumption | exact SqL.of (by walk_at "lk")))
  | (with_reducible refine r_iRng1 ?_)
  | ((with_reducible refine' r_rngE ?h0 ?h1 ?_); (case h0 => first | omega | (split <;> omega)); (case h1 => first | omega | (split <;> omega))))
local macro_rules | `(tactic| walk_at "rd") => `(tactic| (repeat walk_at "rd2"))
local macro_rules | `(tactic| walk_at "st") => `(tactic| (repeat (first
  | (with_reducible refine r_gname ?_)
  | (with_reducible refine r_next ?_)
  | (with_reducible refine r_seq ?_)
  | (with_reducible refine r_asg ?_)
  | (with_reducible refine r_ret ?_)
  | (with_reducible refine r_for ?_)
  | (with_reducible refine r_iRng1 ?_)
  | (with_reducible refine r_iList ?_)
  | (with_reducible refine r_cons ?_)
  | (with_reducible refine r_par ?_)
  | (with_reducible refine r_par3 ?_))))
def topS (i : Nat) : Stmt := PySem.Challenge.pw_tarhouse_k02_members_refused.main.body.getD i (.Pass ⟨0, 0, 0, 0⟩)
abbrev s_copied : Stmt := topS 5
abbrev N_copied : List Str := ["thing", "part", "key"]
theorem sc_copied : FnScope N_copied ["thing"] (defScope s_copied) := ⟨rfl, rfl, rfl, by decide +kernel, rfl, by decide +kernel, by decide +kernel⟩
abbrev s_is_integer : Stmt := topS 2
abbrev N_is_integer : List Str := ["thing"]
theorem sc_is_integer : FnScope N_is_integer ["thing"] (defScope s_is_integer) := ⟨rfl, rfl, rfl, by decide +kernel, rfl, by decide +kernel, by decide +kernel⟩
abbrev s_is_integer_within : Stmt := topS 3
abbrev N_is_integer_within : List Str := ["thing", "least", "most"]
theorem sc_is_integer_within : FnScope N_is_integer_within ["thing", "least", "most"] (defScope s_is_integer_within) := ⟨rfl, rfl, rfl, by decide +kernel, rfl, by decide +kernel, by decide +kernel⟩
abbrev s_is_name : Stmt := topS 26
abbrev N_is_name : List Str := ["thing", "character"]
theorem sc_is_name : FnScope N_is_name ["thing"] (defScope s_is_name) := ⟨rfl, rfl, rfl, by decide +kernel, rfl, by decide +kernel, by decide +kernel⟩
abbrev s_is_data : Stmt := topS 27
abbrev N_is_data : List Str := ["thing"]
theorem sc_is_data : FnScope N_is_data ["thing"] (defScope s_is_data) := ⟨rfl, rfl, rfl, by decide +kernel, rfl, by decide +kernel, by decide +kernel⟩
abbrev s_is_size : Stmt := topS 28
abbrev N_is_size : List Str := ["thing"]
theorem sc_is_size : FnScope N_is_size ["thing"] (defScope s_is_size) := ⟨rfl, rfl, rfl, by decide +kernel, rfl, by decide +kernel, by decide +kernel⟩
abbrev s_is_mode : Stmt := topS 29
abbrev N_is_mode : List Str := ["thing"]
theorem sc_is_mode : FnScope N_is_mode ["thing"] (defScope s_is_mode) := ⟨rfl, rfl, rfl, by decide +kernel, rfl, by decide +kernel, by decide +kernel⟩
abbrev s_is_time : Stmt := topS 30
abbrev N_is_time : List Str := ["thing"]
theorem sc_is_time : FnScope N_is_time ["thing"] (defScope s_is_time) := ⟨rfl, rfl, rfl, by decide +kernel, rfl, by decide +kernel, by decide +kernel⟩
abbrev s_are_pieces : Stmt := topS 31
abbrev N_are_pieces : List Str := ["size", "pieces", "offset", "data", "piece"]
theorem sc_are_pieces : FnScope N_are_pieces ["size", "pieces"] (defScope s_are_pieces) := ⟨rfl, rfl, rfl, by decide +kernel, rfl, by decide +kernel, by decide +kernel⟩
abbrev s_is_piece : Stmt := topS 32
abbrev N_is_piece : List Str := ["thing"]
theorem sc_is_piece : FnScope N_is_piece ["thing"] (defScope s_is_piece) := ⟨rfl, rfl, rfl, by decide +kernel, rfl, by decide +kernel, by decide +kernel⟩
abbrev s_are_spans : Stmt := topS 33
abbrev N_are_spans : List Str := ["size", "spans", "least", "offset", "length"]
theorem sc_are_spans : FnScope N_are_spans ["size", "spans"] (defScope s_are_spans) := ⟨rfl, rfl, rfl, by decide +kernel, rfl, by decide +kernel, by decide +kernel⟩
abbrev s_check_name : Stmt := topS 34
abbrev N_check_name : List Str := ["thing"]
theorem sc_check_name : FnScope N_check_name ["thing"] (defScope s_check_name) := ⟨rfl, rfl, rfl, by decide +kernel, rfl, by decide +kernel, by decide +kernel⟩
abbrev s_check_data : Stmt := topS 35
abbrev N_check_data : List Str := ["thing"]
theorem sc_check_data : FnScope N_check_data ["thing"] (defScope s_check_data) := ⟨rfl, rfl, rfl, by decide +kernel, rfl, by decide +kernel, by decide +kernel⟩
abbrev s_check_pieces : Stmt := topS 36
abbrev N_check_pieces : List Str := ["size", "pieces"]
theorem sc_check_pieces : FnScope N_check_pieces ["size", "pieces"] (defScope s_check_pieces) := ⟨rfl, rfl, rfl, by decide +kernel, rfl, by decide +kernel, by decide +kernel⟩
abbrev s_check_mode_and_time : Stmt := topS 37
abbrev N_check_mode_and_time : List Str := ["mode", "time"]
theorem sc_check_mode_and_time : FnScope N_check_mode_and_time ["mode", "time"] (defScope s_check_mode_and_time) := ⟨rfl, rfl, rfl, by decide +kernel, rfl, by decide +kernel, by decide +kernel⟩
abbrev s_blob : Stmt := topS 45
abbrev N_blob : List Str := ["numbers"]
theorem sc_blob : FnScope N_blob ["numbers"] (defScope s_blob) := ⟨rfl, rfl, rfl, by decide +kernel, rfl, by decide +kernel, by decide +kernel⟩
abbrev s_is_row_of_bytes : Stmt := topS 46
abbrev N_is_row_of_bytes : List Str := ["thing", "number"]
theorem sc_is_row_of_bytes : FnScope N_is_row_of_bytes ["thing"] (defScope s_is_row_of_bytes) := ⟨rfl, rfl, rfl, by decide +kernel, rfl, by decide +kernel, by decide +kernel⟩
abbrev s_NoBlob___init__ : Stmt := inClass (topS 7) 0
abbrev N_NoBlob___init__ : List Str := ["self", "numbers"]
theorem sc_NoBlob___init__ : FnScope N_NoBlob___init__ ["self", "numbers"] (defScope s_NoBlob___init__) := ⟨rfl, rfl, rfl, by decide +kernel, rfl, by decide +kernel, by decide +kernel⟩
abbrev s_NoData___init__ : Stmt := inClass (topS 8) 0
abbrev N_NoData___init__ : List Str := ["self", "thing"]
theorem sc_NoData___init__ : FnScope N_NoData___init__ ["self", "thing"] (defScope s_NoData___init__) := ⟨rfl, rfl, rfl, by decide +kernel, rfl, by decide +kernel, by decide +kernel⟩
abbrev s_NoName___init__ : Stmt := inClass (topS 11) 0
abbrev N_NoName___init__ : List Str := ["self", "name"]
theorem sc_NoName___init__ : FnScope N_NoName___init__ ["self", "name"] (defScope s_NoName___init__) := ⟨rfl, rfl, rfl, by decide +kernel, rfl, by decide +kernel, by decide +kernel⟩
abbrev s_NoMode___init__ : Stmt := inClass (topS 12) 0
abbrev N_NoMode___init__ : List Str := ["self", "mode"]
theorem sc_NoMode___init__ : FnScope N_NoMode___init__ ["self", "mode"] (defScope s_NoMode___init__) := ⟨rfl, rfl, rfl, by decide +kernel, rfl, by decide +kernel, by decide +kernel⟩
abbrev s_NoSize___init__ : Stmt := inClass (topS 13) 0
abbrev N_NoSize___init__ : List Str := ["self", "size"]
theorem sc_NoSize___init__ : FnScope N_NoSize___init__ ["self", "size"] (defScope s_NoSize___init__) := ⟨rfl, rfl, rfl, by decide +kernel, rfl, by decide +kernel, by decide +kernel⟩
abbrev s_NoPieces___init__ : Stmt := inClass (topS 14) 0
abbrev N_NoPieces___init__ : List Str := ["self", "pieces"]
theorem sc_NoPieces___init__ : FnScope N_NoPieces___init__ ["self", "pieces"] (defScope s_NoPieces___init__) := ⟨rfl, rfl, rfl, by decide +kernel, rfl, by decide +kernel, by decide +kernel⟩
abbrev s_NoTime___init__ : Stmt := inClass (topS 17) 0
abbrev N_NoTime___init__ : List Str := ["self", "time"]
theorem sc_NoTime___init__ : FnScope N_NoTime___init__ ["self", "time"] (defScope s_NoTime___init__) := ⟨rfl, rfl, rfl, by decide +kernel, rfl, by decide +kernel, by decide +kernel⟩
abbrev s_File___init__ : Stmt := inClass (topS 39) 1
abbrev N_File___init__ : List Str := ["self", "name", "data", "mode", "time"]
theorem sc_File___init__ : FnScope N_File___init__ ["self", "name", "data", "mode", "time"] (defScope s_File___init__) := ⟨rfl, rfl, rfl, by decide +kernel, rfl, by decide +kernel, by decide +kernel⟩
abbrev s_Sparse___init__ : Stmt := inClass (topS 40) 1
abbrev N_Sparse___init__ : List Str := ["self", "name", "size", "mode", "time", "pieces"]
theorem sc_Sparse___init__ : FnScope N_Sparse___init__ ["self", "name", "size", "mode", "time", "pieces"] (defScope s_Sparse___init__) := ⟨rfl, rfl, rfl, by decide +kernel, rfl, by decide +kernel, by decide +kernel⟩
abbrev s_Directory___init__ : Stmt := inClass (topS 41) 1
abbrev N_Directory___init__ : List Str := ["self", "name", "mode", "time"]
theorem sc_Directory___init__ : FnScope N_Directory___init__ ["self", "name", "mode", "time"] (defScope s_Directory___init__) := ⟨rfl, rfl, rfl, by decide +kernel, rfl, by decide +kernel, by decide +kernel⟩
abbrev s_Symlink___init__ : Stmt := inClass (topS 42) 1
abbrev N_Symlink___init__ : List Str := ["self", "name", "target", "mode", "time"]
theorem sc_Symlink___init__ : FnScope N_Symlink___init__ ["self", "name", "target", "mode", "time"] (defScope s_Symlink___init__) := ⟨rfl, rfl, rfl, by decide +kernel, rfl, by decide +kernel, by decide +kernel⟩
abbrev s_Link___init__ : Stmt := inClass (topS 43) 1
abbrev N_Link___init__ : List Str := ["self", "name", "target", "mode", "time"]
theorem sc_Link___init__ : FnScope N_Link___init__ ["self", "name", "target", "mode", "time"] (defScope s_Link___init__) := ⟨rfl, rfl, rfl, by decide +kernel, rfl, by decide +kernel, by decide +kernel⟩
abbrev s__law_source : Stmt := topS 48
abbrev N__law_source : List Str := ["_law_script", "_law_at", "_law_cell", "_law_large", "_law_mix", "_law_k"]
theorem sc__law_source : FnScope N__law_source ["_law_script", "_law_at"] (defScope s__law_source) := ⟨rfl, rfl, rfl, by decide +kernel, rfl, by decide +kernel, by decide +kernel⟩
abbrev s__law_draw : Stmt := topS 49
abbrev N__law_draw : List Str := ["_law_source_here", "_law_many", "_law_digit"]
theorem sc__law_draw : FnScope N__law_draw ["_law_source_here", "_law_many"] (defScope s__law_draw) := ⟨rfl, rfl, rfl, by decide +kernel, rfl, by decide +kernel, by decide +kernel⟩
abbrev s__law_error : Stmt := topS 50
abbrev N__law_error : List Str := ["_law_deed", "e"]
theorem sc__law_error : FnScope N__law_error ["_law_deed"] (defScope s__law_error) := ⟨rfl, rfl, rfl, by decide +kernel, rfl, by decide +kernel, by decide +kernel⟩
abbrev s__law_pick : Stmt := topS 51
abbrev N__law_pick : List Str := ["_law_source_here", "_law_good", "_law_bad"]
theorem sc__law_pick : FnScope N__law_pick ["_law_source_here", "_law_good", "_law_bad"] (defScope s__law_pick) := ⟨rfl, rfl, rfl, by decide +kernel, rfl, by decide +kernel, by decide +kernel⟩
abbrev s__law_stamps_due : Stmt := topS 52
abbrev N__law_stamps_due : List Str := ["_law_bits", "_law_time_here"]
theorem sc__law_stamps_due : FnScope N__law_stamps_due ["_law_bits", "_law_time_here"] (defScope s__law_stamps_due) := ⟨rfl, rfl, rfl, by decide +kernel, rfl, by decide +kernel, by decide +kernel⟩
abbrev s__law_random_stamps : Stmt := topS 53
abbrev N__law_random_stamps : List Str := ["_law_source_here", "_law_bits"]
theorem sc__law_random_stamps : FnScope N__law_random_stamps ["_law_source_here"] (defScope s__law_random_stamps) := ⟨rfl, rfl, rfl, by decide +kernel, rfl, by decide +kernel, by decide +kernel⟩
abbrev s__law_wrong_names : Stmt := topS 54
abbrev N__law_wrong_names : List Str := []
theorem sc__law_wrong_names : FnScope N__law_wrong_names [] (defScope s__law_wrong_names) := ⟨rfl, rfl, rfl, by decide +kernel, rfl, by decide +kernel, by decide +kernel⟩
abbrev s__law_links_right : Stmt := topS 55
abbrev N__law_links_right : List Str := ["_law_source_here", "_law_due", "_law_deeds", "_law_bits", "_law_name", "_law_target", "_law_time_here", "_law_deed"]
theorem sc__law_links_right : FnScope N__law_links_right ["_law_source_here"] (defScope s__law_links_right) := ⟨rfl, rfl, rfl, by decide +kernel, rfl, by decide +kernel, by decide +kernel⟩
abbrev s__law_files_right : Stmt := topS 56
abbrev N__law_files_right : List Str := ["_law_source_here", "_law_one", "_law_bad", "_law_pieces", "_law_last", "_law_due", "_law_a", "_law_b", "_law_bits", "_law_c", "_law_data", "_law_name", "_law_size", "_law_some", "_law_time_here"]
theorem sc__law_files_right : FnScope N__law_files_right ["_law_source_here"] (defScope s__law_files_right) := ⟨rfl, rfl, rfl, by decide +kernel, rfl, by decide +kernel, by decide +kernel⟩
abbrev s__law_blob_error : Stmt := topS 57
abbrev N__law_blob_error : List Str := ["_law_value", "e"]
theorem sc__law_blob_error : FnScope N__law_blob_error ["_law_value"] (defScope s__law_blob_error) := ⟨rfl, rfl, rfl, by decide +kernel, rfl, by decide +kernel, by decide +kernel⟩
abbrev s__law_blobs_right : Stmt := topS 58
abbrev N__law_blobs_right : List Str := ["_law_source_here", "_law_some", "_law_odd", "_law_turn", "_law_value"]
theorem sc__law_blobs_right : FnScope N__law_blobs_right ["_law_source_here"] (defScope s__law_blobs_right) := ⟨rfl, rfl, rfl, by decide +kernel, rfl, by decide +kernel, by decide +kernel⟩
abbrev s_law : Stmt := topS 59
abbrev N_law : List Str := ["_law_script", "_law_k", "_law_source_here", "_law_turn"]
theorem sc_law : FnScope N_law ["_law_script"] (defScope s_law) := ⟨rfl, rfl, rfl, by decide +kernel, rfl, by decide +kernel, by decide +kernel⟩
/-- the state of the drawing: three ints -/
def Src (H : Hp) (a : Addr) : Prop := ∃ l m c : Int, H a = some (.lst [.int l, .int m, .int c]) ∧ 0 ≤ l ∧ 0 ≤ m ∧ m < 2147483647
def spDraw : Sp := fun vs H Q _ => ∃ (a : Addr) (n : Int), vs = [.ref a, .int n] ∧ Src H a ∧ 0 < n ∧ n < 1000000000000 ∧ ∀ (d : Int) H', 0 ≤ d → d < n → Src H' a → But a H H' → Q (.int d) H'
theorem sp_draw {a : Addr} {n : Int} {H : Hp} {Q : VK} {E : XK} (h : Src H a) (h0 : 0 < n) (h1 : n < 1000000000000) (k : ∀ (d : Int) H', 0 ≤ d → d < n → Src H' a → But a H H' → Q (.int d) H') : spDraw ([.ref a, .int n] ++ []) H Q E := ⟨a, n, rfl, h, h0, h1, k⟩
section
variable {P : Program} {w : World} {K : PySem.W.Frag} {mg : Str → Option Value} {base : Heap}
theorem ok_draw {f : Addr} {fd : FuncData} {k : Nat} (F : Fun K "_law_draw" "_law_draw" s__law_draw f fd) (mi : mg "int" = none) : FnOk P w K mg base CX0 (k + 2) f fd ["_law_source_here", "_law_many"] spDraw := by
  refine F.ok sc__law_draw (fun vs H Q E h => ?_) (fun cdv A outer s H vs Q E hr h => ?_)
  · obtain ⟨a, n, rfl, _⟩ := h
    rfl
  · obtain ⟨a, n, rfl, ⟨l, m, c, ha, hl0, hm0, hm1⟩, hn0, hn1, q⟩ := h
    have hu := hu_of hr
    have nd := sc__law_draw.nd
    refine ⟨_, (pss_cons (ps_if (pt_cmpR op_gt (pe_ix (ix_listK K) (pv 0) pe_int (fun _ _ => rfl)) pe_int (nomark _))
        (pss_cons (ps_set (i := 2) nd rfl (Or.inl rfl) (pe_op op_mod (pe_callTy call_rInt1 (by rfl) (by assumption) (by decide +kernel) (pa_cons (pe_ix (ix_listK K) (pv 0) pe_int (fun _ _ => rfl)) pa_nil)) (pv 1)))
      (pss_cons (ps_asg (pe_op op_fdivW (pe_ix (ix_listK K) (pv 0) pe_int (fun _ _ => rfl)) (pv 1)) (pg_sub (pv 0) pe_int set_list))
      (pss_one (ps_ret (pv 2)))))
        pss_nil)
      (pss_cons (ps_asg (pe_op op_add (pe_ix (ix_listK K) (pv 0) pe_int (fun _ _ => rfl)) pe_int) (pg_sub (pv 0) pe_int set_list))
      (pss_cons (ps_asg (pe_op op_mod (pe_callTy call_rInt1 (by rfl) (by assumption) (by decide +kernel) (pa_cons (pe_op op_add (pe_op op_add (pe_op op_pow (pe_ix (ix_listK K) (pv 0) pe_int (fun _ _ => rfl)) pe_int) (pe_op op_mul pe_int (pe_ix (ix_listK K) (pv 0) pe_int (fun _ _ => rfl)))) pe_int) pa_nil)) pe_int) (pg_sub (pv 0) pe_int set_list))
      (pss_one (ps_ret (pe_op op_mod (pe_callTy call_rInt1 (by rfl) (by assumption) (by decide +kernel) (pa_cons (pe_op op_fdivW (pe_op op_mod (pe_callTy call_rInt1 (by rfl) (by assumption) (by decide +kernel) (pa_cons (pe_op op_mul (pe_ix (ix_listK K) (pv 0) pe_int (fun _ _ => rfl)) pe_int) pa_nil)) pe_int) pe_int) pa_nil)) (pv 1))))))), ?_⟩
    walk_at "rd"
    refine r_iteD (fun h0 => ?_) (fun h0 => ?_)
    · walk_at "rd"
      refine q _ _ (Int.emod_nonneg _ (by omega)) (Int.emod_lt_of_pos _ hn0) ⟨l / n, m, c, upd_same, Int.ediv_nonneg hl0 (by omega), hm0, hm1⟩ (fun b o nb e => by rw [upd_ne nb]; exact e)
    · walk_at "rd"
      refine q _ _ (Int.emod_nonneg _ (by omega)) (Int.emod_lt_of_pos _ hn0) ⟨l, _, c + 1, upd_same, hl0, Int.emod_nonneg _ (by decide), Int.emod_lt_of_pos _ (by decide)⟩ (fun b o nb e => by rw [upd_ne nb, upd_ne nb]; exact e)
/-! ### the program's questions, of any value -/
def Tr.isI : Tr → Bool
  | .int _ => true
  | _ => false
def Tr.within (lo hi : Int) : Tr → Bool
  | .int i => decide (lo ≤ i) && decide (i ≤ hi)
  | _ => false
def Tr.ty : Tr → String
  | .non => "NoneType"
  | .bl _ => "bool"
  | .int _ => "int"
  | .str _ => "str"
  | .byt _ => "bytes"
  | .lst _ => "list"
  | .tup _ => "tuple"
  | .emp => "dict"
theorem Dn.tyX {K : PySem.W.Frag} {H : Hp} {v : V} {t : Tr} (d : Dn H v t) : TyX K H v (.type t.ty) := by
  cases d with
  | non => exact .base .non
  | bl b => exact .base (.bl b)
  | int i => exact .base (.int i)
  | str z => exact .base (.str z)
  | byt y => exact .byt y
  | lst h _ => exact .base (.lst h)
  | tup h _ => exact .base (.tup h)
  | emp h => exact .base (.dK h)
def spIsI : Sp := fun vs H Q _ => ∃ (x : V) (t : Tr), vs = [x] ∧ Dn H x t ∧ Q (.bl t.isI) H
def spWithin : Sp := fun vs H Q _ => ∃ (x : V) (t : Tr) (lo hi : Int), vs = [x, .int lo, .int hi] ∧ Dn H x t ∧ Q (.bl (t.within lo hi)) H
theorem ok_isI {f : Addr} {fd : FuncData} {k : Nat} (F : Fun K "is_integer" "is_integer" s_is_integer f fd) (m1 : mg "isinstance" = none) (m2 : mg "bool" = none) (m3 : mg "int" = none) : FnOk P w K mg base CX0 (k + 1) f fd ["thing"] spIsI := by
  refine F.ok sc_is_integer (fun vs H Q E h => ?_) (fun cdv A outer s H vs Q E hr h => ?_)
  · obtain ⟨x, t, rfl, _⟩ := h
    rfl
  · obtain ⟨x, t, rfl, d, q⟩ := h
    have hu := hu_of hr
    have nd := sc_is_integer.nd
    have ty := d.tyX (K := K)
    refine ⟨_, (pss_one (ps_ret (pe_and (pe_callB (call_isiK1 K) (by rfl) (by assumption) (by decide +kernel) (pa_cons (pv 0) (pa_cons (pe_bltn (v := .ty "int") (by rfl) (by assumption) (by decide +kernel) rfl) pa_nil))) (pe_one (pe_not (pe_callB (call_isiK1 K) (by rfl) (by assumption) (by decide +kernel) (pa_cons (pv 0) (pa_cons (pe_bltn (v := .ty "bool") (by rfl) (by assumption) (by decide +kernel) rfl) pa_nil)))))))), ?_⟩
    cases t <;> (simp only [Tr.ty] at ty; walk_at "rd"; exact q)
theorem ok_within {f : Addr} {fd : FuncData} {k : Nat} (F : Fun K "is_integer_within" "is_integer_within" s_is_integer_within f fd) (c_isI : CalT P w K mg base 1 "is_integer" spIsI) : FnOk P w K mg base CX0 (k + 2) f fd ["thing", "least", "most"] spWithin := by
  refine F.ok sc_is_integer_within (fun vs H Q E h => ?_) (fun cdv A outer s H vs Q E hr h => ?_)
  · obtain ⟨x, t, lo, hi, rfl, _⟩ := h
    rfl
  · obtain ⟨x, t, lo, hi, rfl, d, q⟩ := h
    have hu := hu_of hr
    have nd := sc_is_integer_within.nd
    refine ⟨_, (pss_one (ps_ret (pe_and (pe_cc c_isI hr (by omega) (by rfl) (pa_cons (pv 0) pa_nil)) (pe_one (pe_chain op_le op_le (pv 1) (pv 0) (pv 2)))))), ?_⟩
    walk_at "rd"
    refine ⟨x, t, rfl, d, ?_⟩
    cases d with
    | int i =>
      simp only [Tr.isI, Tr.within] at q ⊢
      walk_at "rd"
      refine r_iteD (fun h1 => ?_) (fun h1 => ?_)
      · walk_at "rd"
        rw [decide_eq_true h1, Bool.true_and] at q
        exact q
      · walk_at "rd"
        rw [decide_eq_false h1, Bool.false_and] at q
        exact q
    | _ =>
      simp only [Tr.isI, Tr.within] at q ⊢
      walk_at "rd"
      exact q
theorem sp_within {x : V} {t : Tr} {lo hi : Int} {H : Hp} {Q : VK} {E : XK} (d : Dn H x t) (k : Q (.bl (t.within lo hi)) H) : spWithin ([x, .int lo, .int hi] ++ []) H Q E := ⟨x, t, lo, hi, rfl, d, k⟩
def Tr.dataB : Tr → Bool
  | .byt y => decide (y.size ≤ 4096)
  | _ => false
def spData : Sp := fun vs H Q _ => ∃ (x : V) (t : Tr), vs = [x] ∧ Dn H x t ∧ t.ok = true ∧ Q (.bl t.dataB) H
theorem ok_isdata {f : Addr} {fd : FuncData} {k : Nat} {t1 : Tok} (F : Fun K "is_data" "is_data" s_is_data f fd) (m1 : mg "isinstance" = none) (m2 : mg "bytes" = none) (m3 : mg "len" = none) (m_MB : mg "MOST_BYTES" = some (.int 4096 t1)) : FnOk P w K mg base CX0 (k + 1) f fd ["thing"] spData := by
  refine F.ok sc_is_data (fun vs H Q E h => ?_) (fun cdv A outer s H vs Q E hr h => ?_)
  · obtain ⟨x, t, rfl, _⟩ := h
    rfl
  · obtain ⟨x, t, rfl, d, hk, q⟩ := h
    have hu := hu_of hr
    have nd := sc_is_data.nd
    have ty := d.tyX (K := K)
    refine ⟨_, (pss_one (ps_ret (pe_and (pe_callB (call_isiK1 K) (by rfl) (by assumption) (by decide +kernel) (pa_cons (pv 0) (pa_cons (pe_bltn (v := .ty "bytes") (by rfl) (by assumption) (by decide +kernel) rfl) pa_nil))) (pe_one (pe_cmpR op_le (pe_callB call_rLenY (by rfl) (by assumption) (by decide +kernel) (pa_cons (pv 0) pa_nil)) (pe_glob (v := .int 4096) (by rfl) m_MB (by first | exact rfl | exact ⟨_, rfl⟩)) (nomark _)))))), ?_⟩
    cases d with
    | byt y =>
      have hz : y.size ≤ 5000 := by simpa [Tr.ok] using hk
      simp only [Tr.ty] at ty
      simp only [Tr.dataB] at q
      walk_at "rd"
      rw [show decide ((y.size : Int) ≤ 4096) = decide (y.size ≤ 4096) by rw [Bool.eq_iff_iff]; simp; omega]
      exact q
    | _ => simp only [Tr.ty] at ty; walk_at "rd"; exact q
def spNumB (lo hi : Int) : Sp := fun vs H Q _ => ∃ (x : V) (t : Tr), vs = [x] ∧ Dn H x t ∧ Q (.bl (t.within lo hi)) H
theorem ok_issize {f : Addr} {fd : FuncData} {k : Nat} {t1 : Tok} (F : Fun K "is_size" "is_size" s_is_size f fd) (c_within : CalT P w K mg base 2 "is_integer_within" spWithin) (m_MB : mg "MOST_BYTES" = some (.int 4096 t1)) : FnOk P w K mg base CX0 (k + 3) f fd ["thing"] (spNumB 0 4096) := by
  refine F.ok sc_is_size (fun vs H Q E h => ?_) (fun cdv A outer s H vs Q E hr h => ?_)
  · obtain ⟨x, t, rfl, _⟩ := h
    rfl
  · obtain ⟨x, t, rfl, d, q⟩ := h
    have hu := hu_of hr
    have nd := sc_is_size.nd
    refine ⟨_, (pss_one (ps_ret (pe_cc c_within hr (by omega) (by rfl) (pa_cons (pv 0) (pa_cons pe_int (pa_cons (pe_glob (v := .int 4096) (by rfl) m_MB (by first | exact rfl | exact ⟨_, rfl⟩)) pa_nil)))))), ?_⟩
    walk_at "rd"
    exact sp_within d q
theorem ok_ismode {f : Addr} {fd : FuncData} {k : Nat} {t1 : Tok} (F : Fun K "is_mode" "is_mode" s_is_mode f fd) (c_within : CalT P w K mg base 2 "is_integer_within" spWithin) (m_LM : mg "LAST_MODE" = some (.int 4095 t1)) : FnOk P w K mg base CX0 (k + 3) f fd ["thing"] (spNumB 0 4095) := by
  refine F.ok sc_is_mode (fun vs H Q E h => ?_) (fun cdv A outer s H vs Q E hr h => ?_)
  · obtain ⟨x, t, rfl, _⟩ := h
    rfl
  · obtain ⟨x, t, rfl, d, q⟩ := h
    have hu := hu_of hr
    have nd := sc_is_mode.nd
    refine ⟨_, (pss_one (ps_ret (pe_cc c_within hr (by omega) (by rfl) (pa_cons (pv 0) (pa_cons pe_int (pa_cons (pe_glob (v := .int 4095) (by rfl) m_LM (by first | exact rfl | exact ⟨_, rfl⟩)) pa_nil)))))), ?_⟩
    walk_at "rd"
    exact sp_within d q
theorem ok_istime {f : Addr} {fd : FuncData} {k : Nat} {t1 : Tok} (F : Fun K "is_time" "is_time" s_is_time f fd) (c_within : CalT P w K mg base 2 "is_integer_within" spWithin) (m_LT : mg "LAST_TIME" = some (.int 8589934591 t1)) : FnOk P w K mg base CX0 (k + 3) f fd ["thing"] (spNumB 0 8589934591) := by
  refine F.ok sc_is_time (fun vs H Q E h => ?_) (fun cdv A outer s H vs Q E hr h => ?_)
  · obtain ⟨x, t, rfl, _⟩ := h
    rfl
  · obtain ⟨x, t, rfl, d, q⟩ := h
    have hu := hu_of hr
    have nd := sc_is_time.nd
    refine ⟨_, (pss_one (ps_ret (pe_cc c_within hr (by omega) (by rfl) (pa_cons (pv 0) (pa_cons pe_int (pa_cons (pe_glob (v := .int 8589934591) (by rfl) m_LT (by first | exact rfl | exact ⟨_, rfl⟩)) pa_nil)))))), ?_⟩
    walk_at "rd"
    exact sp_within d q
end
end Th
namespace Th
open PySem PySem.Spec PyProof.Rows L2
local macro_rules | `(tactic| walk_at "lk") => `(tactic| first
  | assumption
  | exact upd_same
  | (refine upd_old (by assumption) ?_; walk_at "lk")
  | (refine upd_diff (by assumption) ?_; walk_at "lk")
  | (refine upd_diff (Ne.symm (by assumption)) ?_; walk_at "lk"))
local macro_rules | `(tactic| walk_at "cnd") => `(tactic| first
  | omega
  | (refine ⟨by omega, by omega⟩)
  | (refine ⟨by omega, by omega, by omega⟩)
  | (refine .inl ⟨by omega, by omega⟩)
  | (refine .inr ⟨by omega, by omega⟩)
  | (exact (show CPow _ _ from ⟨by decide, by decide, by omega⟩))
  | decide +kernel
  | (unfold CMulW; decide +kernel)
  | (exact wide_div (b := 64) (by omega) (by omega) (by decide) (by decide)))
local macro_rules | `(tactic| walk_at "rd1") => `(tactic| first
  | (with_reducible refine r_seq ?_)
  | (with_reducible refine r_asg ?_)
  | (with_reducible refine r_ret ?_)
  | (with_reducible refine r_if ?_)
  | (with_reducible refine r_gname ?_)
  | ((with_reducible refine' r_var ?hv ?_); (case hv => exact rfl))
  | (with_reducible refine r_c ?_)
  | (with_reducible refine r_op ?_)
  | (with_reducible refine r_I0 ?_)
  | ((with_reducible refine r_I ?hc ?_); (case hc => walk_at "cnd"))
  | (with_reducible refine r_test ?_)
  | (with_reducible refine r_tB ?_)
  | (with_reducible refine r_bl ?_)
  | (with_reducible refine r_not ?_)
  | (with_reducible refine r_and ?_)
  | (with_reducible refine r_or ?_)
  | (with_reducible refine r_ifE ?_)
  | (with_reducible refine r_notV ?_)
  | (with_reducible refine r_andV ?_)
  | (with_reducible refine r_orV ?_)
  | (with_reducible refine r_chain ?_)
  | (with_reducible refine r_cb ?_)
  | (with_reducible refine r_call ?_)
  | (with_reducible refine r_callN ?_)
  | (with_reducible refine r_nil ?_)
  | (with_reducible refine r_cons ?_)
  | ((with_reducible refine r_lst ?_))
  | ((with_reducible refine r_tup ?_))
  | ((with_reducible refine r_new ?_ ?_); (exact Nat.le_of_ble_eq_true rfl); (intro p hp))
  | (with_reducible refine r_rInt1 ?_)
  | (with_reducible refine r_rIntB ?_)
  | (with_reducible refine r_rAbs ?_)
  | (with_reducible refine r_rMin2 ?_)
  | (with_reducible refine r_rMax2 ?_)
  | ((with_reducible refine r_rLenZ ?hz ?_); (case hz => first | assumption | exact Nat.le_of_ble_eq_true rfl | (refine Nat.le_trans ?_ (by decide : 100000 ≤ sizeLine); omega)))
  | ((with_reducible refine r_addZ ?hz ?_); (case hz => (refine Nat.le_trans ?_ (by decide : 100000 ≤ sizeLine); first | omega | (simp only [Str.length] at *; simp; omega))))
  | ((with_reducible refine r_mulZ ?hz ?h0 ?h1 ?_); (case hz => first | omega | exact Nat.le_of_ble_eq_true rfl); (case h0 => omega); (case h1 => omega))
  | ((with_reducible refine' r_rLenQ ?h1 ?_); (case h1 => first | (exact .inl (by assumption)) | (exact .inr (by assumption)) | (exact .inl (SqL.of (by walk_at "lk"))) | (exact .inr (SqT.of (by walk_at "lk")))))
  | ((with_reducible refine r_eq ?hs ?_); (case hs => exact rfl))
  | ((with_reducible refine r_ne ?hs ?_); (case hs => exact rfl))
  | (with_reducible refine r_inC ?_)
  | ((with_reducible refine' r_cat ?h1 ?h2 ?h3 ?_); (case h1 => walk_at "lk"); (case h2 => walk_at "lk"); (case h3 => exact Nat.le_of_ble_eq_true rfl); (intro p hp))
  | ((with_reducible refine' r_rep ?h1 ?h2 ?h3 ?h4 ?_); (case h1 => walk_at "lk"); (case h2 => omega); (case h3 => omega); (case h4 => exact Nat.le_of_ble_eq_true rfl); (intro p hp))
  | ((with_reducible refine' r_append ?h1 ?h2 ?_); (case h1 => walk_at "lk"); (case h2 => first | exact (show _ + 1 ≤ sizeLine from Nat.le_of_ble_eq_true rfl) | exact Nat.lt_of_le_of_lt (by omega : _ ≤ 100000) (by decide)))
  | (with_reducible refine r_bm ?_)
  | ((with_reducible refine' r_tyL ?h1 ?_); (case h1 => walk_at "lk"))
  | ((with_reducible refine' r_ixL ?h1 ?h2 ?_); (case h1 => first | assumption | exact SqL.of (by walk_at "lk")); (case h2 => exact rfl))
  | ((with_reducible refine' r_ixT ?h1 ?h2 ?_); (case h1 => first | assumption | exact SqT.of (by walk_at "lk")); (case h2 => exact rfl))
  | (with_reducible refine r_gsub ?_)
  | ((with_reducible refine' r_setL ?h1 ?h2 ?_); (case h1 => walk_at "lk"); (case h2 => exact rfl))
  | (with_reducible refine r_un ?_)
  | (with_reducible refine r_neg ?_)
  | (with_reducible refine r_iteT ?_)
  | (with_reducible refine r_iteNT ?_)
  | (with_reducible refine r_iteNF ?_)
  | (with_reducible refine r_iteF ?_)
  | (with_reducible refine r_next ?_)
  | (with_reducible refine r_drop ?_)
  | (with_reducible refine r_cont ?_)
  | (with_reducible refine r_brk ?_))
local macro_rules | `(tactic| walk_at "ty") => `(tactic| first
  | assumption
  | exact .base (.int _)
  | exact .base (.str _)
  | exact .base (.bl _)
  | exact .base .non
  | exact .byt _
  | exact .base (.lst (by walk_at "lk"))
  | exact .base (.tup (by walk_at "lk")))
local macro_rules | `(tactic| walk_at "rd2") => `(tactic| first
  | walk_at "rd1"
  | ((with_reducible refine' r_isi true ?ht ?hk ?_); (case ht => walk_at "ty"); (case hk => first | assumption | decide +kernel))
  | ((with_reducible refine' r_isi false ?ht ?hk ?_); (case ht => walk_at "ty"); (case hk => first | assumption | decide +kernel))
  | ((with_reducible refine' r_isiT2 true true ?hT ?ht ?hk ?hk2 ?_); (case hT => walk_at "lk"); (case ht => walk_at "ty"); (case hk => decide +kernel); (case hk2 => decide +kernel))
  | ((with_reducible refine' r_isiT2 true false ?hT ?ht ?hk ?hk2 ?_); (case hT => walk_at "lk"); (case ht => walk_at "ty"); (case hk => decide +kernel); (case hk2 => decide +kernel))
  | ((with_reducible refine' r_isiT2 false true ?hT ?ht ?hk ?hk2 ?_); (case hT => walk_at "lk"); (case ht => walk_at "ty"); (case hk => decide +kernel); (case hk2 => decide +kernel))
  | ((with_reducible refine' r_isiT2 false false ?hT ?ht ?hk ?hk2 ?_); (case hT => walk_at "lk"); (case ht => walk_at "ty"); (case hk => decide +kernel); (case hk2 => decide +kernel))
  | (with_reducible refine r_iteNT ?_)
  | ((show (if (!true) = true then _ else _)); refine r_iteNT ?_)
  | (with_reducible refine r_r1 ?_)
  | (with_reducible refine r_maks ?_)
  | (with_reducible refine r_sfld ?_)
  | ((with_reducible refine' r_sfldE ?h1 ?h2 ?h3 ?h4 ?_); (case h1 => walk_at "lk"); (case h2 => assumption); (case h3 => assumption); (case h4 => exact (show _ + 1 ≤ 1000 from Nat.le_of_ble_eq_true rfl)))
  | (with_reducible refine r_fld ?_)
  | (with_reducible refine r_join ?_)
  | (with_reducible refine r_jcons ?_)
  | (with_reducible refine r_jnil ?_)
  | ((with_reducible refine r_rLenY ?hz ?_); (case hz => first | assumption | (refine Nat.le_trans ?_ (by decide : 100000 ≤ sizeLine); omega)))
  | (with_reducible refine r_par ?_)
  | (with_reducible refine r_pair ?_)
  | (with_reducible refine r_par3 ?_)
  | (with_reducible refine r_trip ?_)
  | ((with_reducible refine' r_gtup ?h1 ?h2 ?_); (case h1 => first | assumption | exact SqT.of (by walk_at "lk")); (case h2 => exact rfl))
  | (with_reducible refine r_gcons ?_)
  | (with_reducible refine r_gnil ?_)
  | ((with_reducible refine' r_slL ?h1 ?_); (case h1 => first | assumption | exact SqL.of (by walk_at "lk")); (intro p hp))
  | (with_reducible refine r_iTup ?_)
  | ((with_reducible refine' r_tupE ?h1 ?_); (case h1 => first | assumption | exact SqT.of (by walk_at "lk")))
  | (with_reducible refine r_m1 ?_)
  | (with_reducible refine r_isZ ?_)
  | (with_reducible refine r_sl ?_)
  | (with_reducible refine r_noPart ?_)
  | (with_reducible refine r_part ?_)
  | (with_reducible refine r_partE ?_)
  | ((with_reducible refine r_slS ?hz ?_); (case hz => first | assumption | (refine Nat.le_trans ?_ (by decide : 100000 ≤ sizeLine); omega)))
  | ((with_reducible refine' r_inT ?h1 ?h2 ?h3 ?_); (case h1 => first | assumption | (exact SqT.of (by walk_at "lk"))); (case h2 => exact rfl); (case h3 => exact rfl))
  | ((with_reducible refine' r_inL ?h1 ?h2 ?h3 ?_); (case h1 => first | assumption | (exact SqL.of (by walk_at "lk"))); (case h2 => exact rfl); (case h3 => exact rfl))
  | (with_reducible refine r_lc ?_)
  | (with_reducible refine r_for ?_)
  | (with_reducible refine r_iStr ?_)
  | (with_reducible refine r_strE ?_)
  | (with_reducible refine r_iList ?_)
  | ((with_reducible refine' r_listE ?h1 ?_); (case h1 => first | assumption | exact SqL.of (by walk_at "lk")))
  | (with_reducible refine r_iRng1 ?_)
  | ((with_reducible refine' r_rngE ?h0 ?h1 ?_); (case h0 => first | omega | (split <;> omega)); (case h1 => first | omega | (split <;> omega))))
local macro_rules | `(tactic| walk_at "rd") => `(tactic| (repeat walk_at "rd2"))
local macro_rules | `(tactic| walk_at "st") => `(tactic| (repeat (first
  | (with_reducible refine r_gname ?_)
  | (with_reducible refine r_next ?_)
  | (with_reducible refine r_seq ?_)
  | (with_reducible refine r_asg ?_)
  | (with_reducible refine r_ret ?_)
  | (with_reducible refine r_for ?_)
  | (with_reducible refine r_iRng1 ?_)
  | (with_reducible refine r_iList ?_)
  | (with_reducible refine r_cons ?_)
  | (with_reducible refine r_par ?_)
  | (with_reducible refine r_par3 ?_))))
theorem store_KeyErrorT : PySem.StoreFacts "KeyError" [.type "KeyError", .type "LookupError", .type "Exception", .type "BaseException", .type "object"] "object.__setattr__" "object" where
  mro := by kernel_rfl
  slot := .of (owner := "object") (n := "__setattr__") (by rw [PySem.typeLookup_type, PySem.builtinLookup_eq_fast]; kernel_rfl) (by decide +kernel) (by decide +kernel) (by decide +kernel)
    (by first | exact .inl (by decide +kernel) | exact .inr (by decide +kernel)) (by rw [PySem.isSubtype_type]; kernel_rfl)
  entry := PySem.F.entry_object_sa
  kind := by decide +kernel
  split := by decide +kernel
  hasOwner := by decide +kernel
  args := fun a b c => by unfold PySem.argsOk; kernel_rfl
  passes := fun self => by kernel_rfl
/-! ### an own exception made by a call with keywords: __new__, then the own __init__ -/
namespace ExK
open PySem PySem.W PySem.Calls PyProof.Rows PySem.HandSPX
open Builtin Builtin.ObjectAttr
section
variable {M : Model} {A : Around} {E : Value → Shared → Prop} {h : Heap} {g : Array GenState} {d : Drawn} {t : Nat} {os : OsState}
variable {nm q : Str} {C N : Addr} {bs bm bmB : List Value} {hdct : Bool} {sn : List Str} {sub : List Value} {ab : Bool} {col : Option Bool} {dd : Option Addr} {k0 k1 k2 k3 k5 : Option Value} {B newId initId : String}
theorem check_new_kw (F : ExcBaseFacts B newId initId bmB) (hT : bm.contains (.type B) = true ∧ bm.contains (.type "AttributeError") = false ∧ bm.contains (.type "NameError") = false) {rest : List Value} {kw : List (Str × Value)} {Q : Unit → Shared → Prop}
    (hC : h.get? C = some (excClassObj nm q C N bs bm hdct sn sub ab col dd k0 k1 k2 k3 k5 newId)) (hq : Q () ⟨h, g, d, t, os⟩) : wpAny M A (checkBuiltinCall newId ⟨.ref C :: rest, kw⟩) Q E ⟨h, g, d, t, os⟩ := by
  have hcont : (Value.ref C :: bm).contains (.type B) = true := by rw [List.contains_cons, hT.1, Bool.or_true]
  have hstar := F.noStar
  simp only [checkBuiltinCall, F.newKind, F.newSplit, F.newRow]
  repeat (first | refine wpAny_loadPart_at hC ?_ | (refine wpAny_isSubtype_exc hC ?_; rw [hcont]) | refine wpAny_staticBase_exc hC ?_ | refine wpAny_madeBy_exc hC ?_ | simp only [bne_self_eq_false, Bool.false_eq_true, if_false] | wp_step)
  exact hq
end
section
variable {prog : Program} {w : World} {A : Around} {E : Value → Shared → Prop} {R : Result → Shared → Prop} {h : Heap} {g : Array GenState} {d : Drawn} {t : Nat} {os : OsState}
variable {nm q : Str} {C N : Addr} {bs bm bmB : List Value} {hdct : Bool} {sn : List Str} {sub : List Value} {ab : Bool} {col : Option Bool} {dd : Option Addr} {k0 k1 k2 k3 k5 : Option Value} {B newId initId : String}
theorem new_kw (F : ExcBaseFacts B newId initId bmB) (hT : bm.contains (.type B) = true ∧ bm.contains (.type "AttributeError") = false ∧ bm.contains (.type "NameError") = false) {rest : List Value} {kw : List (Str × Value)}
    (hC : h.get? C = some (excClassObj nm q C N bs bm hdct sn sub ab col dd k0 k1 k2 k3 k5 newId))
    (hq : R (.ok (.ret (.ref (h.objs.size + 1)))) ⟨(h.push { cls := .type "tuple", data := .seq rest.toArray }).push
      { cls := .ref C, data := .fields #[.ref h.objs.size, .none, .none, .none, .bool false, .none] }, g, d, t, os⟩) (hrest : rest.length ≤ sizeLine) :
    codeAny (model prog w) A (.builtin newId ⟨.ref C :: rest, kw⟩) R ⟨h, g, d, t, os⟩ := by
  have hends := F.ends
  have hcB : (Value.ref C :: bm).contains (.type B) = true := by rw [List.contains_cons, hT.1, Bool.or_true]
  have hcA : (Value.ref C :: bm).contains (.type "AttributeError") = false := by rw [List.contains_cons, hT.2.1]; rfl
  have hcN : (Value.ref C :: bm).contains (.type "NameError") = false := by rw [List.contains_cons, hT.2.2]; rfl
  refine codeAny_builtinAt F.entry ?_
  unfold Builtin.«BaseException.__new__»
  refine PySem.wpAt_bind ?_
  show PySem.wpAt _ _ _ (stack >>= _) _ _ _
  refine PySem.wpAt_bind (PySem.wpAt_stack fun p below => PySem.wpAt_of_wpAny ?_)
  wp_walk
  refine PySem.wpAt_of_wpAny ?_
  rw [F.owner]
  repeat (first | with_reducible refine wpAny_madeHere_exc F.canon hC ?_ | with_reducible refine wpAny_loadPart_at hC ?_ | (with_reducible refine wpAny_isSubtype_exc hC ?_; first | rw [hcB] | rw [hcA] | rw [hcN]) | wp_step)
  show R _ _
  rw [Heap.size_push]
  exact hq
theorem type_call_kw (F : ExcBaseFacts B newId initId bmB) (hT : bm.contains (.type B) = true ∧ bm.contains (.type "AttributeError") = false ∧ bm.contains (.type "NameError") = false) {rest : List Value} {kw : List (Str × Value)} {fI : Addr} {Q : Fin → Shared → Prop}
    (hC : h.get? C = some (excClassObj nm q C N bs bm hdct sn sub ab col dd k0 k1 k2 k3 k5 newId))
    (hi : W.Looks (model prog w) h (typeLookup (.ref C) "__init__") (some (.ref fI))) (hb : ∀ self, W.Looks (model prog w) h (bindSpecial (.ref fI) self) (.ref fI, [self])) (hrest : rest.length ≤ sizeLine)
    (hq : codeAny (model prog w) A (.call (.ref fI) ⟨.ref (h.objs.size + 1) :: rest, kw⟩)
      (fun r s' => match r with | .ok (.ret v) => v = .none ∧ Q (.done (.ret (.ref (h.objs.size + 1)))) s' | .ok _ => False | .error e => E e s')
      ⟨(h.push (W.kdv_tup rest)).push (excO C h.objs.size), g, d, t, os⟩) :
    wpAny (model prog w) A (Builtin.«type.__call__» ⟨.ref C :: rest, kw⟩) Q E ⟨h, g, d, t, os⟩ := by
  repeat (first | with_reducible refine wpAny_loadPart_at hC ?_ | with_reducible refine wpAny_madeBy_exc hC ?_ | wp_step)
  refine codeAny_call_builtin_code (Code.quiet_builtin _ F.quiet) (check_new_kw F hT hC ?_)
  refine new_kw F hT hC ?_ hrest
  show wpAny _ _ _ _ _ _
  have k : ∀ b o, h.get? b = some o → ((h.push (W.kdv_tup rest)).push (excO C h.objs.size)).get? b = some o := fun b o e => Heap.get?_push_of_some _ (Heap.get?_push_of_some _ e)
  have hC₁ := k _ _ hC
  have hget : ((h.push (W.kdv_tup rest)).push (excO C h.objs.size)).get? (h.objs.size + 1) = some (excO C h.objs.size) := by heap_get
  have hcC : (Value.ref C :: bm).contains (.ref C) = true := by simp
  have i1 := hi.keeps k
  have b1 := (hb (.ref (h.objs.size + 1))).keeps k
  unfold isInstance
  repeat (first | with_reducible refine wpAny_loadPart_at hget ?_ | (with_reducible refine wpAny_isSubtype_exc hC₁ ?_; rw [hcC]) | wp_step)
  show wpAny _ _ (typeLookup (.ref C) _) _ _ _
  refine i1.at ?_
  refine wpAny_holding (wpAny_bind (b1.at ?_))
  refine wpAny_bind (wpAny_call (codeAny_mono hq fun r s' z => ?_))
  rcases r with e | (v | _ | _ | _) <;> first | exact z | exact z.elim | skip
  obtain ⟨rfl, z⟩ := z
  first
    | exact wpAny_pure (wpAny_pure z)
    | (wp_walk; exact z)
theorem call_kw (F : ExcBaseFacts B newId initId bmB) (hT : bm.contains (.type B) = true ∧ bm.contains (.type "AttributeError") = false ∧ bm.contains (.type "NameError") = false) {rest : List Value} {kw : List (Str × Value)} {fI : Addr}
    (hC : h.get? C = some (excClassObj nm q C N bs bm hdct sn sub ab col dd k0 k1 k2 k3 k5 newId))
    (hi : W.Looks (model prog w) h (typeLookup (.ref C) "__init__") (some (.ref fI))) (hb : ∀ self, W.Looks (model prog w) h (bindSpecial (.ref fI) self) (.ref fI, [self])) (hrest : rest.length ≤ sizeLine)
    (hq : codeAny (model prog w) (A.under (.builtin "type.__call__" ⟨.ref C :: rest, kw⟩)) (.call (.ref fI) ⟨.ref (h.objs.size + 1) :: rest, kw⟩) (W.InitBack (h.objs.size + 1) R)
      ⟨(h.push (W.kdv_tup rest)).push (excO C h.objs.size), g, d, t, os⟩) :
    codeAny (model prog w) A (.call (.ref C) ⟨rest, kw⟩) R ⟨h, g, d, t, os⟩ := by
  have f1 := tc_lookup
  have f2 := tc_bind (.ref C)
  have hTy : (⟨h, g, d, t, os⟩ : Shared).TypeIs (.ref C) "type" := ⟨_, hC, rfl⟩
  refine codeAny_of_tree ?_
  show wpAny _ _ (callAny (.ref C) _) _ _ _
  repeat (any_goals (first | assumption | with_reducible refine wpAny_loadPart_at hC ?_ | wp_step))
  refine ⟨rfl, ?_⟩
  refine codeAny_call_builtin_at (Code.quiet_builtin _ (by decide +kernel)) entry_typeCall (wpAny_check_type_call_sub hC (type_call_kw F hT hC hi hb hrest ?_))
  refine codeAny_mono hq fun r s' z => ?_
  rcases r with e | (v | _ | _ | _) <;> exact z
end
end ExK
end Th
namespace Th
open PySem PySem.Spec PyProof.Rows L2
local macro_rules | `(tactic| walk_at "lk") => `(tactic| first
  | assumption
  | exact upd_same
  | (refine upd_old (by assumption) ?_; walk_at "lk")
  | (refine upd_diff (by assumption) ?_; walk_at "lk")
  | (refine upd_diff (Ne.symm (by assumption)) ?_; walk_at "lk"))
local macro_rules | `(tactic| walk_at "cnd") => `(tactic| first
  | omega
  | (refine ⟨by omega, by omega⟩)
  | (refine ⟨by omega, by omega, by omega⟩)
  | (refine .inl ⟨by omega, by omega⟩)
  | (refine .inr ⟨by omega, by omega⟩)
  | (exact (show CPow _ _ from ⟨by decide, by decide, by omega⟩))
  | decide +kernel
  | (unfold CMulW; decide +kernel)
  | (exact wide_div (b := 64) (by omega) (by omega) (by decide) (by decide)))
local macro_rules | `(tactic| walk_at "rd1") => `(tactic| first
  | (with_reducible refine r_seq ?_)
  | (with_reducible refine r_asg ?_)
  | (with_reducible refine r_ret ?_)
  | (with_reducible refine r_if ?_)
  | (with_reducible refine r_gname ?_)
  | ((with_reducible refine' r_var ?hv ?_); (case hv => exact rfl))
  | (with_reducible refine r_c ?_)
  | (with_reducible refine r_op ?_)
  | (with_reducible refine r_I0 ?_)
  | ((with_reducible refine r_I ?hc ?_); (case hc => walk_at "cnd"))
  | (with_reducible refine r_test ?_)
  | (with_reducible refine r_tB ?_)
  | (with_reducible refine r_bl ?_)
  | (with_reducible refine r_not ?_)
  | (with_reducible refine r_and ?_)
  | (with_reducible refine r_or ?_)
  | (with_reducible refine r_ifE ?_)
  | (with_reducible refine r_notV ?_)
  | (with_reducible refine r_andV ?_)
  | (with_reducible refine r_orV ?_)
  | (with_reducible refine r_chain ?_)
  | (with_reducible refine r_cb ?_)
  | (with_reducible refine r_call ?_)
  | (with_reducible refine r_callN ?_)
  | (with_reducible refine r_nil ?_)
  | (with_reducible refine r_cons ?_)
  | ((with_reducible refine r_lst ?_))
  | ((with_reducible refine r_tup ?_))
  | ((with_reducible refine r_new ?_ ?_); (exact Nat.le_of_ble_eq_true rfl); (intro p hp))
  | (with_reducible refine r_rInt1 ?_)
  | (with_reducible refine r_rIntB ?_)
  | (with_reducible refine r_rAbs ?_)
  | (with_reducible refine r_rMin2 ?_)
  | (with_reducible refine r_rMax2 ?_)
  | ((with_reducible refine r_rLenZ ?hz ?_); (case hz => first | assumption | exact Nat.le_of_ble_eq_true rfl | (refine Nat.le_trans ?_ (by decide : 100000 ≤ sizeLine); omega)))
  | ((with_reducible refine r_addZ ?hz ?_); (case hz => (refine Nat.le_trans ?_ (by decide : 100000 ≤ sizeLine); first | omega | (simp only [Str.length] at *; simp; omega))))
  | ((with_reducible refine r_mulZ ?hz ?h0 ?h1 ?_); (case hz => first | omega | exact Nat.le_of_ble_eq_true rfl); (case h0 => omega); (case h1 => omega))
  | ((with_reducible refine' r_rLenQ ?h1 ?_); (case h1 => first | (exact .inl (by assumption)) | (exact .inr (by assumption)) | (exact .inl (SqL.of (by walk_at "lk"))) | (exact .inr (SqT.of (by walk_at "lk")))))
  | ((with_reducible refine r_eq ?hs ?_); (case hs => exact rfl))
  | ((with_reducible refine r_ne ?hs ?_); (case hs => exact rfl))
  | (with_reducible refine r_inC ?_)
  | ((with_reducible refine' r_cat ?h1 ?h2 ?h3 ?_); (case h1 => walk_at "lk"); (case h2 => walk_at "lk"); (case h3 => exact Nat.le_of_ble_eq_true rfl); (intro p hp))
  | ((with_reducible refine' r_rep ?h1 ?h2 ?h3 ?h4 ?_); (case h1 => walk_at "lk"); (case h2 => omega); (case h3 => omega); (case h4 => exact Nat.le_of_ble_eq_true rfl); (intro p hp))
  | ((with_reducible refine' r_append ?h1 ?h2 ?_); (case h1 => walk_at "lk"); (case h2 => first | exact (show _ + 1 ≤ sizeLine from Nat.le_of_ble_eq_true rfl) | exact Nat.lt_of_le_of_lt (by omega : _ ≤ 100000) (by decide)))
  | (with_reducible refine r_bm ?_)
  | ((with_reducible refine' r_tyL ?h1 ?_); (case h1 => walk_at "lk"))
  | ((with_reducible refine' r_ixL ?h1 ?h2 ?_); (case h1 => first | assumption | exact SqL.of (by walk_at "lk")); (case h2 => exact rfl))
  | ((with_reducible refine' r_ixT ?h1 ?h2 ?_); (case h1 => first | assumption | exact SqT.of (by walk_at "lk")); (case h2 => exact rfl))
  | (with_reducible refine r_gsub ?_)
  | ((with_reducible refine' r_setL ?h1 ?h2 ?_); (case h1 => walk_at "lk"); (case h2 => exact rfl))
  | (with_reducible refine r_un ?_)
  | (with_reducible refine r_neg ?_)
  | (with_reducible refine r_iteT ?_)
  | (with_reducible refine r_iteNT ?_)
  | (with_reducible refine r_iteNF ?_)
  | (with_reducible refine r_iteF ?_)
  | (with_reducible refine r_next ?_)
  | (with_reducible refine r_drop ?_)
  | (with_reducible refine r_cont ?_)
  | (with_reducible refine r_brk ?_))
local macro_rules | `(tactic| walk_at "ty") => `(tactic| first
  | assumption
  | exact .base (.int _)
  | exact .base (.str _)
  | exact .base (.bl _)
  | exact .base .non
  | exact .byt _
  | exact .base (.lst (by walk_at "lk"))
  | exact .base (.tup (by walk_at "lk")))
local macro_rules | `(tactic| walk_at "rd2") => `(tactic| first
  | walk_at "rd1"
  | ((with_reducible refine' r_isi true ?ht ?hk ?_); (case ht => walk_at "ty"); (case hk => first | assumption | decide +kernel))
  | ((with_reducible refine' r_isi false ?ht ?hk ?_); (case ht => walk_at "ty"); (case hk => first | assumption | decide +kernel))
  | ((with_reducible refine' r_isiT2 true true ?hT ?ht ?hk ?hk2 ?_); (case hT => walk_at "lk"); (case ht => walk_at "ty"); (case hk => decide +kernel); (case hk2 => decide +kernel))
  | ((with_reducible refine' r_isiT2 true false ?hT ?ht ?hk ?hk2 ?_); (case hT => walk_at "lk"); (case ht => walk_at "ty"); (case hk => decide +kernel); (case hk2 => decide +kernel))
  | ((with_reducible refine' r_isiT2 false true ?hT ?ht ?hk ?hk2 ?_); (case hT => walk_at "lk"); (case ht => walk_at "ty"); (case hk => decide +kernel); (case hk2 => decide +kernel))
  | ((with_reducible refine' r_isiT2 false false ?hT ?ht ?hk ?hk2 ?_); (case hT => walk_at "lk"); (case ht => walk_at "ty"); (case hk => decide +kernel); (case hk2 => decide +kernel))
  | (with_reducible refine r_iteNT ?_)
  | ((show (if (!true) = true then _ else _)); refine r_iteNT ?_)
  | (with_reducible refine r_r1 ?_)
  | (with_reducible refine r_maks ?_)
  | (with_reducible refine r_sfld ?_)
  | ((with_reducible refine' r_sfldE ?h1 ?h2 ?h3 ?h4 ?_); (case h1 => walk_at "lk"); (case h2 => assumption); (case h3 => assumption); (case h4 => exact (show _ + 1 ≤ 1000 from Nat.le_of_ble_eq_true rfl)))
  | (with_reducible refine r_fld ?_)
  | (with_reducible refine r_join ?_)
  | (with_reducible refine r_jcons ?_)
  | (with_reducible refine r_jnil ?_)
  | ((with_reducible refine r_rLenY ?hz ?_); (case hz => first | assumption | (refine Nat.le_trans ?_ (by decide : 100000 ≤ sizeLine); omega)))
  | (with_reducible refine r_par ?_)
  | (with_reducible refine r_pair ?_)
  | (with_reducible refine r_par3 ?_)
  | (with_reducible refine r_trip ?_)
  | ((with_reducible refine' r_gtup ?h1 ?h2 ?_); (case h1 => first | assumption | exact SqT.of (by walk_at "lk")); (case h2 => exact rfl))
  | (with_reducible refine r_gcons ?_)
  | (with_reducible refine r_gnil ?_)
  | ((with_reducible refine' r_slL ?h1 ?_); (case h1 => first | assumption | exact SqL.of (by walk_at "lk")); (intro p hp))
  | (with_reducible refine r_iTup ?_)
  | ((with_reducible refine' r_tupE ?h1 ?_); (case h1 => first | assumption | exact SqT.of (by walk_at "lk")))
  | (with_reducible refine r_m1 ?_)
  | (with_reducible refine r_isZ ?_)
  | (with_reducible refine r_sl ?_)
  | (with_reducible refine r_noPart ?_)
  | (with_reducible refine r_part ?_)
  | (with_reducible refine r_partE ?_)
  | ((with_reducible refine r_slS ?hz ?_); (case hz => first | assumption | (refine Nat.le_trans ?_ (by decide : 100000 ≤ sizeLine); omega)))
  | ((with_reducible refine' r_inT ?h1 ?h2 ?h3 ?_); (case h1 => first | assumption | (exact SqT.of (by walk_at "lk"))); (case h2 => exact rfl); (case h3 => exact rfl))
  | ((with_reducible refine' r_inL ?h1 ?h2 ?h3 ?_); (case h1 => first | assumption | (exact SqL.of (by walk_at "lk"))); (case h2 => exact rfl); (case h3 => exact rfl))
  | (with_reducible refine r_lc ?_)
  | (with_reducible refine r_for ?_)
  | (with_reducible refine r_iStr ?_)
  | (with_reducible refine r_strE ?_)
  | (with_reducible refine r_iList ?_)
  | ((with_reducible refine' r_listE ?h1 ?_); (case h1 => first | assumption | exact SqL.of (by walk_at "lk")))
  | (with_reducible refine r_iRng1 ?_)
  | ((with_reducible refine' r_rngE ?h0 ?h1 ?_); (case h0 => first | omega | (split <;> omega)); (case h1 => first | omega | (split <;> omega))))
local macro_rules | `(tactic| walk_at "rd") => `(tactic| (repeat walk_at "rd2"))
local macro_rules | `(tactic| walk_at "st") => `(tactic| (repeat (first
  | (with_reducible refine r_gname ?_)
  | (with_reducible refine r_next ?_)
  | (with_reducible refine r_seq ?_)
  | (with_reducible refine r_asg ?_)
  | (with_reducible refine r_ret ?_)
  | (with_reducible refine r_for ?_)
  | (with_reducible refine r_iRng1 ?_)
  | (with_reducible refine r_iList ?_)
  | (with_reducible refine r_cons ?_)
  | (with_reducible refine r_par ?_)
  | (with_reducible refine r_par3 ?_))))
/-! ### storing into an exception -/
namespace ExK
open PySem PySem.W PySem.Calls PySem.HandSPX
open Builtin Builtin.ObjectAttr
section
variable {prog : Program} {w : World} {A : Around} {E : Value → Shared → Prop} {R : Result → Shared → Prop} {hp : Heap} {g : Array GenState} {d : Drawn} {t : Nat} {os : OsState}
theorem taker_none {K : PySem.W.Frag} {C : Addr} {f : Str} (h : PySem.W.findIn K (.ref C) f = some none) : PySem.W.takerIn K C f = some none := by
  unfold PySem.W.takerIn
  rw [h]
  rfl
theorem exc_osaG {K : PySem.W.Frag} {name : Str} {tk : Tok} {v : Value} {x C : Addr} {fv : Array Value} {B : String} {bmB : List Value} (SF : StoreFacts B bmB "object.__setattr__" "object")
    (X : K.In hp) (hx : hp.get? x = some { cls := .ref C, data := .fields fv }) (hov : PySem.W.excOver K C bmB = true) (hh : PySem.W.hasDictIn K C = true) (ha : PySem.W.findIn K (.ref C) name = some none)
    (hq : ∀ h' tk' dx, (∀ b o, b ≠ x → hp.get? b = some o → h'.get? b = some o) → hp.objs.size ≤ dx → dx ≠ x → h'.get? x = some { cls := .ref C, dict := some dx, data := .fields fv } →
      h'.Ns1 dx (fun y => if y = name then some v else none) → R (.ok (.ret .none)) ⟨h', g, d, tk', os⟩) :
    codeAny (model prog w) A (.call (.builtin "object.__setattr__") ⟨[.ref x, .str name tk, v], []⟩) R ⟨hp, g, d, t, os⟩ := by
  obtain ⟨cd, hcd, hh'⟩ := any_some hh
  have I : PySem.W.InstAt hp x { cls := .ref C, data := .fields fv } C none := ⟨hx, rfl, rfl, trivial⟩
  have hxs : x ≠ hp.objs.size := Nat.ne_of_lt (Heap.lt_size hx)
  have hcls : PySem.W.Looks (model prog w) hp (classData C) cd := PySem.W.looks_clsIn X hcd
  refine osa_openX (r := none) SF X I hov (taker_none ha) (fun b => ?_)
  show wpAny _ _ (storeInOwnDict (.ref x) (.ref C) (.str name tk) name v b) _ _ _
  obtain ⟨nm, bs, mro, ns, qn, hd, sn, sb, ab, col, del⟩ := cd
  dsimp only at hh'
  subst hh'
  unfold storeInOwnDict ownDictForStores
  repeat (first | with_reducible refine store_in_new ?_ ?_ | with_reducible refine wpAny_loadPart_at hx ?_ | with_reducible refine hcls.at ?_ | wp_step)
  · exact ⟨_, #[], _, (Heap.get?_update_ne _ _ _ _ hxs.symm).trans (Heap.get?_push_at rfl rfl), rfl, fun e he => absurd he (by simp), fun _ => rfl⟩
  · intro h' tk' hn' hs
    have hx₁ : (hp.push { cls := .type "dict", data := .dict #[] }).get? x = some { cls := .ref C, data := .fields fv } := Heap.get?_push_of_some _ hx
    refine hq h' tk' hp.objs.size (fun b o hb ho => ?_) (Nat.le_refl _) hxs.symm ?_ hn'
    · exact (hs.2 b (Nat.ne_of_lt (Heap.lt_size ho))).trans ((Heap.get?_update_ne _ _ _ _ hb).trans (Heap.get?_push_of_some _ ho))
    · exact (hs.2 x hxs).trans (Heap.get?_update_self _ hx₁ rfl)
theorem exc_oldG {K : PySem.W.Frag} {name : Str} {tk : Tok} {v : Value} {x C dx : Addr} {fv : Array Value} {m0 : Str → Option Value} {nl : List Str} {B : String} {bmB : List Value} (SF : StoreFacts B bmB "object.__setattr__" "object")
    (X : K.In hp) (hx : hp.get? x = some { cls := .ref C, dict := some dx, data := .fields fv }) (hns : hp.Ns1 dx m0) (hw : Within m0 nl) (hz : nl.length ≤ 1000) (hov : PySem.W.excOver K C bmB = true) (hh : PySem.W.hasDictIn K C = true)
    (ha : PySem.W.findIn K (.ref C) name = some none)
    (hq : ∀ h' tk', (∀ b o, b ≠ dx → hp.get? b = some o → h'.get? b = some o) → h'.Ns1 dx (fun y => if y = name then some v else m0 y) → R (.ok (.ret .none)) ⟨h', g, d, tk', os⟩) :
    codeAny (model prog w) A (.call (.builtin "object.__setattr__") ⟨[.ref x, .str name tk, v], []⟩) R ⟨hp, g, d, t, os⟩ := by
  obtain ⟨cd, hcd, hh'⟩ := any_some hh
  obtain ⟨oD, esD, epD, hoD, hdD, _⟩ := hns.count hw
  have I : PySem.W.InstAt hp x { cls := .ref C, dict := some dx, data := .fields fv } C (some oD) := ⟨hx, rfl, rfl, hoD⟩
  have hcls : PySem.W.Looks (model prog w) hp (classData C) cd := PySem.W.looks_clsIn X hcd
  refine osa_openX (r := none) SF X I hov (taker_none ha) (fun b => ?_)
  show wpAny _ _ (storeInOwnDict (.ref x) (.ref C) (.str name tk) name v b) _ _ _
  obtain ⟨nm, bs, mro, ns, qn, hd, sn, sb, ab, col, del⟩ := cd
  dsimp only at hh'
  subst hh'
  unfold storeInOwnDict ownDictForStores
  repeat (first | with_reducible refine PySem.OEX.store_in_old hns hw hz ?_ | with_reducible refine wpAny_loadPart_at hx ?_ | with_reducible refine hcls.at ?_ | wp_step)
  intro h' tk' hn' hs
  exact hq h' tk' (fun b o hb ho => (hs.2 b hb).trans ho) hn'
end
end ExK
/-! ### own exceptions as values -/
structure ExG (K : PySem.W.Frag) (C fI : Addr) : Prop where
  b : ∃ (B newId initId : String) (bmA : List Value) (B' : String) (bmB : List Value), PySem.ExcBaseFacts B newId initId bmA ∧ PySem.StoreFacts B' bmB "object.__setattr__" "object" ∧ PySem.W.excInitIn K C bmB newId = true ∧ PySem.W.excOver K C bmB = true ∧
    bmB.contains (.type B) = true ∧ bmB.contains (.type "AttributeError") = false ∧ bmB.contains (.type "NameError") = false
  sa : PySem.W.findIn K (.ref C) "__setattr__" = some (some (.builtin "object.__setattr__"))
  iC : PySem.W.findIn K (.ref C) "__init__" = some (some (.ref fI))
  tI : PySem.W.typeIn K (.ref fI) = some (.type "function")
  kC : PySem.W.keepIn K (.ref C) = true
  ga : PySem.W.findIn K (.ref C) "__getattribute__" = some (some (.builtin "BaseException.__getattribute__"))
  gg : PySem.W.findIn K (.ref C) "__getattr__" = some none
  exC : PySem.W.subIn K (.ref C) (.type "BaseException") = some true
  hd : PySem.W.hasDictIn K C = true
  ha : PySem.W.findIn K (.ref C) "__class__" = some (some (.builtin "object.__class__"))
  hn : PySem.W.specialIn K (.builtin "object.__class__") "__get__" = some (some (.builtin "getset_descriptor.__get__"))
  ht : PySem.W.takesIn K (.builtin "object.__class__") = some true
  hm : PySem.W.mroIn K C (.type "object") = some true
section
variable {X : Cx} {pins : List (Addr × Obj)} {σ : L2.St} {H : Hp} {s : Shared} {a C fI dx : Addr} {f : Str} {y : V} {u : Value} {fs : List (Str × V)} {Q : Unit → Shared → Prop} {E : Value → Shared → Prop} {A : Around}
theorem ost_newG (T : ExG X.K C fI) (I : Inv X pins σ H s) (e : H a = some (exo a C none)) (hno : PySem.W.findIn X.K (.ref C) f = some none) (ry : RelV y u)
    (h : ∀ dx s', H dx = none → dx ≠ a → Inv X pins σ (upd (upd H dx (exd dx [(f, y)])) a (exo a C (some dx))) s' → Q () s') : wpAny (model X.prog X.w) A (setAttr (.ref a) f u) Q E s := by
  obtain ⟨B, newId, initId, bmA, B', bmB, FB, SF, hin, hov, _⟩ := T.b
  obtain ⟨t1, ho⟩ := exo_at I.hok e
  obtain ⟨hp, g, d, t, os⟩ := s
  refine PySem.W.set_plain I.kIn (ox := { cls := .ref C, dict := none, data := .fields #[.ref t1, .none, .none, .none, .bool false, .none] }) (od := none) ⟨ho, rfl, rfl, trivial⟩ T.sa ?_
  refine ExK.exc_osaG SF I.kIn ho hov T.hd hno (fun h' tk' dx k dn dne hx hn => ?_)
  have hnd : H dx = none := I.hok.fresh dn
  have nd : ∀ {b : Addr} {o : Obj}, hp.get? b = some o → b ≠ dx := fun {b o} q => Nat.ne_of_lt (Nat.lt_of_lt_of_le (Heap.lt_size q) dn)
  have na : ∀ {b : Addr}, H b = none → b ≠ a := fun {b} n z => by
    rw [z, e] at n
    cases n
  have Un1 : Un X.fs [] H (upd (upd H dx (exd dx [(f, y)])) a (exo a C (some dx))) hp h' := {
    keep := fun b o q n _ _ => k b o (na n) q
    slot := fun b o q n _ _ => ⟨o.slots, k b o (na n) q⟩
    free := fun b o q n _ => by rw [upd_ne (na n), upd_ne (nd q)]; exact n
    there := fun b o q _ => by
      by_cases hb : b = a
      · exact ⟨_, by rw [hb]; exact hx⟩
      · exact ⟨o, k b o hb q⟩
    tups := fun b xs q => by rw [upd_ne (at_ne e q exo_tup), upd_ne (ne_of_none q hnd)]; exact q
    frzs := fun b o v q => by rw [upd_ne (at_ne e q exo_frz), upd_ne (ne_of_none q hnd)]; exact q
    tbls := fun b ps q => ⟨#[], by rw [upd_ne (at_ne e q exo_tbl), upd_ne (ne_of_none q hnd), q]; simp⟩ }
  refine h dx _ hnd dne (I.un (t' := tk') Un1 fun b o q => ?_)
  by_cases hb : b = a
  · subst hb
    rw [upd_same] at q
    cases q
    exact exo_ok hx
  · rw [upd_ne hb] at q
    by_cases hd : b = dx
    · subst hd
      rw [upd_same] at q
      cases q
      exact exd_ok hn (relO_put (fs := []) ry fun g => True.intro)
    · rw [upd_ne hd] at q
      exact (I.hok b o q).stay (fun c v hc z => k c v (by
          rcases hc with hc | hc
          · rw [hc]
            exact hb
          · exact at_ne e hc exo_own) z)
        (fun c hc => by rw [upd_ne (at_ne e hc exo_own), upd_ne (ne_of_none hc hnd)]; exact hc) (fun c xs hc => by rw [upd_ne (at_ne e hc exo_tup), upd_ne (ne_of_none hc hnd)]; exact hc)
theorem ost_oldG (T : ExG X.K C fI) (I : Inv X pins σ H s) (e : H a = some (exo a C (some dx))) (ed : H dx = some (exd dx fs)) (hl : fs.length ≤ 900) (hno : PySem.W.findIn X.K (.ref C) f = some none) (ry : RelV y u)
    (h : ∀ s', Inv X pins σ (upd H dx (exd dx ((f, y) :: fs))) s' → Q () s') : wpAny (model X.prog X.w) A (setAttr (.ref a) f u) Q E s := by
  obtain ⟨B, newId, initId, bmA, B', bmB, FB, SF, hin, hov, _⟩ := T.b
  obtain ⟨t1, ho⟩ := exo_at I.hok e
  obtain ⟨mA, hns, rel⟩ := exd_at I.hok ed
  have hw := within_of rel
  obtain ⟨hp, g, d, t, os⟩ := s
  obtain ⟨oD, _, _, hoD, _, _⟩ := hns.count hw
  refine PySem.W.set_plain I.kIn (ox := { cls := .ref C, dict := some dx, data := .fields #[.ref t1, .none, .none, .none, .bool false, .none] }) (od := some oD) ⟨ho, rfl, rfl, hoD⟩ T.sa ?_
  refine ExK.exc_oldG SF I.kIn ho hns hw (by rw [List.length_map]; omega) hov T.hd hno (fun h' tk' k hn => ?_)
  have hd : ∃ o, h'.get? dx = some o := by
    obtain ⟨o, _, _, e', _⟩ := hn
    exact ⟨o, e'⟩
  exact h _ (I.write (t' := tk') (x := dx) (e := dx) (o := exd dx ((f, y) :: fs)) (by rw [ed]; exact True.intro) (.inl rfl) k hd (exd_ok hn (relO_put ry rel)))
end
end Th
namespace Th
open PySem PySem.Spec PyProof.Rows L2
local macro_rules | `(tactic| walk_at "lk") => `(tactic| first
  | assumption
  | exact upd_same
  | (refine upd_old (by assumption) ?_; walk_at "lk")
  | (refine upd_diff (by assumption) ?_; walk_at "lk")
  | (refine upd_diff (Ne.symm (by assumption)) ?_; walk_at "lk"))
local macro_rules | `(tactic| walk_at "cnd") => `(tactic| first
  | omega
  | (refine ⟨by omega, by omega⟩)
  | (refine ⟨by omega, by omega, by omega⟩)
  | (refine .inl ⟨by omega, by omega⟩)
  | (refine .inr ⟨by omega, by omega⟩)
  | (exact (show CPow _ _ from ⟨by decide, by decide, by omega⟩))
  | decide +kernel
  | (unfold CMulW; decide +kernel)
  | (exact wide_div (b := 64) (by omega) (by omega) (by decide) (by decide)))
local macro_rules | `(tactic| walk_at "rd1") => `(tactic| first
  | (with_reducible refine r_seq ?_)
  | (with_reducible refine r_asg ?_)
  | (with_reducible refine r_ret ?_)
  | (with_reducible refine r_if ?_)
  | (with_reducible refine r_gname ?_)
  | ((with_reducible refine' r_var ?hv ?_); (case hv => exact rfl))
  | (with_reducible refine r_c ?_)
  | (with_reducible refine r_op ?_)
  | (with_reducible refine r_I0 ?_)
  | ((with_reducible refine r_I ?hc ?_); (case hc => walk_at "cnd"))
  | (with_reducible refine r_test ?_)
  | (with_reducible refine r_tB ?_)
  | (with_reducible refine r_bl ?_)
  | (with_reducible refine r_not ?_)
  | (with_reducible refine r_and ?_)
  | (with_reducible refine r_or ?_)
  | (with_reducible refine r_ifE ?_)
  | (with_reducible refine r_notV ?_)
  | (with_reducible refine r_andV ?_)
  | (with_reducible refine r_orV ?_)
  | (with_reducible refine r_chain ?_)
  | (with_reducible refine r_cb ?_)
  | (with_reducible refine r_call ?_)
  | (with_reducible refine r_callN ?_)
  | (with_reducible refine r_nil ?_)
  | (with_reducible refine r_cons ?_)
  | ((with_reducible refine r_lst ?_))
  | ((with_reducible refine r_tup ?_))
  | ((with_reducible refine r_new ?_ ?_); (exact Nat.le_of_ble_eq_true rfl); (intro p hp))
  | (with_reducible refine r_rInt1 ?_)
  | (with_reducible refine r_rIntB ?_)
  | (with_reducible refine r_rAbs ?_)
  | (with_reducible refine r_rMin2 ?_)
  | (with_reducible refine r_rMax2 ?_)
  | ((with_reducible refine r_rLenZ ?hz ?_); (case hz => first | assumption | exact Nat.le_of_ble_eq_true rfl | (refine Nat.le_trans ?_ (by decide : 100000 ≤ sizeLine); omega)))
  | ((with_reducible refine r_addZ ?hz ?_); (case hz => (refine Nat.le_trans ?_ (by decide : 100000 ≤ sizeLine); first | omega | (simp only [Str.length] at *; simp; omega))))
  | ((with_reducible refine r_mulZ ?hz ?h0 ?h1 ?_); (case hz => first | omega | exact Nat.le_of_ble_eq_true rfl); (case h0 => omega); (case h1 => omega))
  | ((with_reducible refine' r_rLenQ ?h1 ?_); (case h1 => first | (exact .inl (by assumption)) | (exact .inr (by assumption)) | (exact .inl (SqL.of (by walk_at "lk"))) | (exact .inr (SqT.of (by walk_at "lk")))))
  | ((with_reducible refine r_eq ?hs ?_); (case hs => exact rfl))
  | ((with_reducible refine r_ne ?hs ?_); (case hs => exact rfl))
  | (with_reducible refine r_inC ?_)
  | ((with_reducible refine' r_cat ?h1 ?h2 ?h3 ?_); (case h1 => walk_at "lk"); (case h2 => walk_at "lk"); (case h3 => exact Nat.le_of_ble_eq_true rfl); (intro p hp))
  | ((with_reducible refine' r_rep ?h1 ?h2 ?h3 ?h4 ?_); (case h1 => walk_at "lk"); (case h2 => omega); (case h3 => omega); (case h4 => exact Nat.le_of_ble_eq_true rfl); (intro p hp))
  | ((with_reducible refine' r_append ?h1 ?h2 ?_); (case h1 => walk_at "lk"); (case h2 => first | exact (show _ + 1 ≤ sizeLine from Nat.le_of_ble_eq_true rfl) | exact Nat.lt_of_le_of_lt (by omega : _ ≤ 100000) (by decide)))
  | (with_reducible refine r_bm ?_)
  | ((with_reducible refine' r_tyL ?h1 ?_); (case h1 => walk_at "lk"))
  | ((with_reducible refine' r_ixL ?h1 ?h2 ?_); (case h1 => first | assumption | exact SqL.of (by walk_at "lk")); (case h2 => exact rfl))
  | ((with_reducible refine' r_ixT ?h1 ?h2 ?_); (case h1 => first | assumption | exact SqT.of (by walk_at "lk")); (case h2 => exact rfl))
  | (with_reducible refine r_gsub ?_)
  | ((with_reducible refine' r_setL ?h1 ?h2 ?_); (case h1 => walk_at "lk"); (case h2 => exact rfl))
  | (with_reducible refine r_un ?_)
  | (with_reducible refine r_neg ?_)
  | (with_reducible refine r_iteT ?_)
  | (with_reducible refine r_iteNT ?_)
  | (with_reducible refine r_iteNF ?_)
  | (with_reducible refine r_iteF ?_)
  | (with_reducible refine r_next ?_)
  | (with_reducible refine r_drop ?_)
  | (with_reducible refine r_cont ?_)
  | (with_reducible refine r_brk ?_))
local macro_rules | `(tactic| walk_at "ty") => `(tactic| first
  | assumption
  | exact .base (.int _)
  | exact .base (.str _)
  | exact .base (.bl _)
  | exact .base .non
  | exact .byt _
  | exact .base (.lst (by walk_at "lk"))
  | exact .base (.tup (by walk_at "lk")))
local macro_rules | `(tactic| walk_at "rd2") => `(tactic| first
  | walk_at "rd1"
  | ((with_reducible refine' r_isi true ?ht ?hk ?_); (case ht => walk_at "ty"); (case hk => first | assumption | decide +kernel))
  | ((with_reducible refine' r_isi false ?ht ?hk ?_); (case ht => walk_at "ty"); (case hk => first | assumption | decide +kernel))
  | ((with_reducible refine' r_isiT2 true true ?hT ?ht ?hk ?hk2 ?_); (case hT => walk_at "lk"); (case ht => walk_at "ty"); (case hk => decide +kernel); (case hk2 => decide +kernel))
  | ((with_reducible refine' r_isiT2 true false ?hT ?ht ?hk ?hk2 ?_); (case hT => walk_at "lk"); (case ht => walk_at "ty"); (case hk => decide +kernel); (case hk2 => decide +kernel))
  | ((with_reducible refine' r_isiT2 false true ?hT ?ht ?hk ?hk2 ?_); (case hT => walk_at "lk"); (case ht => walk_at "ty"); (case hk => decide +kernel); (case hk2 => decide +kernel))
  | ((with_reducible refine' r_isiT2 false false ?hT ?ht ?hk ?hk2 ?_); (case hT => walk_at "lk"); (case ht => walk_at "ty"); (case hk => decide +kernel); (case hk2 => decide +kernel))
  | (with_reducible refine r_iteNT ?_)
  | ((show (if (!true) = true then _ else _)); refine r_iteNT ?_)
  | (with_reducible refine r_r1 ?_)
  | (with_reducible refine r_maks ?_)
  | (with_reducible refine r_sfld ?_)
  | ((with_reducible refine' r_sfldE ?h1 ?h2 ?h3 ?h4 ?_); (case h1 => walk_at "lk"); (case h2 => assumption); (case h3 => assumption); (case h4 => exact (show _ + 1 ≤ 1000 from Nat.le_of_ble_eq_true rfl)))
  | (with_reducible refine r_fld ?_)
  | (with_reducible refine r_join ?_)
  | (with_reducible refine r_jcons ?_)
  | (with_reducible refine r_jnil ?_)
  | ((with_reducible refine r_rLenY ?hz ?_); (case hz => first | assumption | (refine Nat.le_trans ?_ (by decide : 100000 ≤ sizeLine); omega)))
  | (with_reducible refine r_par ?_)
  | (with_reducible refine r_pair ?_)
  | (with_reducible refine r_par3 ?_)
  | (with_reducible refine r_trip ?_)
  | ((with_reducible refine' r_gtup ?h1 ?h2 ?_); (case h1 => first | assumption | exact SqT.of (by walk_at "lk")); (case h2 => exact rfl))
  | (with_reducible refine r_gcons ?_)
  | (with_reducible refine r_gnil ?_)
  | ((with_reducible refine' r_slL ?h1 ?_); (case h1 => first | assumption | exact SqL.of (by walk_at "lk")); (intro p hp))
  | (with_reducible refine r_iTup ?_)
  | ((with_reducible refine' r_tupE ?h1 ?_); (case h1 => first | assumption | exact SqT.of (by walk_at "lk")))
  | (with_reducible refine r_m1 ?_)
  | (with_reducible refine r_isZ ?_)
  | (with_reducible refine r_sl ?_)
  | (with_reducible refine r_noPart ?_)
  | (with_reducible refine r_part ?_)
  | (with_reducible refine r_partE ?_)
  | ((with_reducible refine r_slS ?hz ?_); (case hz => first | assumption | (refine Nat.le_trans ?_ (by decide : 100000 ≤ sizeLine); omega)))
  | ((with_reducible refine' r_inT ?h1 ?h2 ?h3 ?_); (case h1 => first | assumption | (exact SqT.of (by walk_at "lk"))); (case h2 => exact rfl); (case h3 => exact rfl))
  | ((with_reducible refine' r_inL ?h1 ?h2 ?h3 ?_); (case h1 => first | assumption | (exact SqL.of (by walk_at "lk"))); (case h2 => exact rfl); (case h3 => exact rfl))
  | (with_reducible refine r_lc ?_)
  | (with_reducible refine r_for ?_)
  | (with_reducible refine r_iStr ?_)
  | (with_reducible refine r_strE ?_)
  | (with_reducible refine r_iList ?_)
  | ((with_reducible refine' r_listE ?h1 ?_); (case h1 => first | assumption | exact SqL.of (by walk_at "lk")))
  | (with_reducible refine r_iRng1 ?_)
  | ((with_reducible refine' r_rngE ?h0 ?h1 ?_); (case h0 => first | omega | (split <;> omega)); (case h1 => first | omega | (split <;> omega))))
local macro_rules | `(tactic| walk_at "rd") => `(tactic| (repeat walk_at "rd2"))
local macro_rules | `(tactic| walk_at "st") => `(tactic| (repeat (first
  | (with_reducible refine r_gname ?_)
  | (with_reducible refine r_next ?_)
  | (with_reducible refine r_seq ?_)
  | (with_reducible refine r_asg ?_)
  | (with_reducible refine r_ret ?_)
  | (with_reducible refine r_for ?_)
  | (with_reducible refine r_iRng1 ?_)
  | (with_reducible refine r_iList ?_)
  | (with_reducible refine r_cons ?_)
  | (with_reducible refine r_par ?_)
  | (with_reducible refine r_par3 ?_))))
/-- a def's promise by the positional values and the keywords' values -/
def FnS (P : Program) (w : World) (K : PySem.W.Frag) (mg : Str → Option Value) (base : Heap) (k : Nat) (f : Addr) (ks : List Str) (sp : List V → List V → Hp → VK → Prop) : Prop :=
  ∀ (A : Around) (outer : List Env) (s : Shared) (H : Hp) (us ws : List Value) (vs zs : List V) (Q : VK) (E : XK), Room k A → Env0 P w K mg base A outer s H → Vals vs us → Vals zs ws → ws.length = ks.length → sp vs zs H Q →
    codeAny (model P w) A (.call (.ref f) ⟨us, ks.zip ws⟩) (CR CX0 outer P w H s Q E) s
theorem fnS_of {P : Program} {w : World} {K : PySem.W.Frag} {mg : Str → Option Value} {base : Heap} {k n : Nat} {f : Addr} {fd : FuncData} {ps ks : List Str} {sp : Sp} (F : FnOk P w K mg base CX0 k f fd ps sp) (hb : KBn K fd ps n ks (fun us ws => us ++ ws) (fun us ws => us ++ ws)) :
    FnS P w K mg base k f ks (fun vs zs H Q => vs.length = n ∧ ∀ E, sp (vs ++ zs) H Q E) := by
  intro A outer s H us ws vs zs Q E hr e0 rv rz hw ⟨hn, h⟩
  have KX : K.In s.heap := e0.mod.kin.keeps fun b o e => (e0.bs b o e).1
  exact F.run A outer s H _ (us ++ ws) (vs ++ zs) Q E hr e0 (hb.to s us ws KX (by rw [← rv.length]; exact hn) hw) (hb.rel rv rz) (h E)
/-! ### an own exception made, its fields stored and read, its kind asked -/
def tOstG (K : PySem.W.Frag) (f : Str) (to te : TE) : TS := fun D σ H => te σ H fun y H1 => to σ H1 fun x H2 => ∃ a C fI : Addr, x = .ref a ∧ ExG K C fI ∧ PySem.W.findIn K (.ref C) f = some none ∧ ((H2 a = some (exo a C none) ∧ ∀ dx, H2 dx = none → dx ≠ a → D.nx σ (upd (upd H2 dx (exd dx [(f, y)])) a (exo a C (some dx)))) ∨
  ∃ (dx : Addr) (fs : List (Str × V)), H2 a = some (exo a C (some dx)) ∧ H2 dx = some (exd dx fs) ∧ fs.length ≤ 900 ∧ D.nx σ (upd H2 dx (exd dx ((f, y) :: fs))))
section
variable {X : Cx} {o e : Expr} {f : Str} {p' pos : Pos} {to te : TE}
theorem ps_ostG (ho : PE X o to) (he : PE X e te) (hs : swapsWith e (some (.Attribute o f p')) pos.line X.env = pure false := by rfl) : PS X (.Assign [.Attribute o f p'] e pos) (tOstG X.K f to te) := by
  refine ⟨fun pins s σ H D I h => ?_⟩
  refine plainObj_wpAny_Assign_Attribute (thn (he.run pins s σ H _ I h) fun v s1 ⟨y, H1, I1, r1, q1⟩ => thn (ho.run pins s1 σ H1 _ I1 q1) fun u s2 ⟨x, H2, I2, r2, a, C, fI, ex, T, hno, q⟩ => ?_) hs
  subst ex
  obtain rfl : u = Value.ref a := r2
  rcases q with ⟨ea, q⟩ | ⟨dx, fs, ea, ed, hl, q⟩
  · exact ost_newG T I2 ea hno r1 fun dx s' n ne J => ⟨σ, _, J, q dx n ne⟩
  · exact ost_oldG T I2 ea ed hl hno r1 fun s' J => ⟨σ, _, J, q⟩
end
structure MakE (P : Program) (w : World) (K : PySem.W.Frag) (mg : Str → Option Value) (base : Heap) (k : Nat) (x : Str) (C : Addr) (ks : List Str) (sp : List V → List V → Hp → VK → Prop) : Prop where
  ex : ∃ f : Addr, ExG K C f ∧ FnS P w K mg base k f ks sp ∧ mg x = some (.ref C)
def tMakE (sp : List V → List V → Hp → VK → Prop) (m : Nat) (C : Addr) (t tk : TA) : TE := fun σ H Q => t σ H fun vs H1 => tk σ H1 fun zs H2 => zs.length = m ∧ vs.length ≤ 1000 ∧ ∀ a, H2 a = none → sp (.ref a :: vs) zs (upd H2 a (exo a C none)) (fun v H3 => v = .non ∧ Q (.ref a) H3)
section
variable {X : Cx} {j k : Nat} {x : Str} {C : Addr} {ks : List Str} {sp : List V → List V → Hp → VK → Prop} {e : Expr} {es : List Expr} {kws : List Keyword} {p pos : Pos} {t tk : TA}
theorem run_mke {pins : List (Addr × Obj)} {σ : L2.St} {H : Hp} {s : Shared} {Q : VK} {f : Addr} {us ws : List Value} {vs zs : List V} (T : ExG X.K C f) (F : FnS X.prog X.w X.K X.mg X.base k f ks sp) (hr : Room (k + 1) X.A)
    (I : L2.Inv X pins σ H s) (rv : Vals vs us) (rz : Vals zs ws) (hl : zs.length = ks.length) (hz : vs.length ≤ 1000)
    (h : ∀ a, H a = none → sp (.ref a :: vs) zs (upd H a (exo a C none)) (fun v H3 => v = .non ∧ Q (.ref a) H3)) :
    wpAny (model X.prog X.w) X.A (call (.ref C) us (ks.zip ws)) (EP X pins σ Q) X.xe s := by
  obtain ⟨B, newId, initId, bmA, B', bmB, FB, SF, hin, hov, t1, t2, t3⟩ := T.b
  obtain ⟨hp, g, dr, tk, os⟩ := s
  obtain ⟨nm, N, q, bs, bm, hd, sn, sub, ab, col, dd, k0, k1, k2, k3, k5, hC, hbm⟩ := PySem.W.excInit_of I.kIn hin
  have hsz : hp.objs.size ≤ hp.objs.size + 1 := Nat.le_succ _
  have hn : H (hp.objs.size + 1) = none := I.hok.fresh hsz
  have hq := h (hp.objs.size + 1) hn
  have kk : ∀ b o, hp.get? b = some o → ((hp.push (PySem.W.kdv_tup us)).push (PySem.HandSPX.excO C hp.objs.size)).get? b = some o := fun b o e => Heap.get?_push_of_some _ (Heap.get?_push_of_some _ e)
  have hget : ((hp.push (PySem.W.kdv_tup us)).push (PySem.HandSPX.excO C hp.objs.size)).get? (hp.objs.size + 1) = some (PySem.HandSPX.excO C hp.objs.size) := by heap_get
  have I2 : L2.Inv X pins σ (upd H (hp.objs.size + 1) (exo (hp.objs.size + 1) C none)) ⟨(hp.push (PySem.W.kdv_tup us)).push (PySem.HandSPX.excO C hp.objs.size), g, dr, tk, os⟩ :=
    I.laid (t' := tk) (a := hp.objs.size + 1) (o := exo (hp.objs.size + 1) C none) (h' := (hp.push (PySem.W.kdv_tup us)).push (PySem.HandSPX.excO C hp.objs.size)) kk hsz (exo_ok hget)
  have r2 : Vals (V.ref (hp.objs.size + 1) :: vs) (Value.ref (hp.objs.size + 1) :: us) := .cons rfl rv
  have hus : us.length ≤ sizeLine := by
    rw [← Paired.length rv, sizeLine_eq]
    omega
  have ran := F _ X.stack _ _ (Value.ref (hp.objs.size + 1) :: us) ws _ zs _ (fun _ _ _ => False) (hr.make C us (ks.zip ws)) (I2.env0.make C us (ks.zip ws)) r2 rz (rz.length.symm.trans hl) hq
  refine wpAny_call (ExK.call_kw FB ⟨(hbm B).trans t1, (hbm _).trans t2, (hbm _).trans t3⟩ hC (PySem.W.looks_findIn I.kIn T.iC) (fun self => PySem.W.bind_fn I.kIn self T.tI) hus (codeAny_mono ran fun r s' hq' => ?_))
  cases r with
  | error e => exact False.elim hq'
  | ok fl =>
    cases fl with
    | ret u =>
      obtain ⟨v, H', J', rel, ev, q⟩ := I2.after hq'
      rw [ev] at rel
      exact ⟨rel, V.ref (hp.objs.size + 1), H', J', rfl, q⟩
    | next => exact False.elim hq'
    | brk => exact False.elim hq'
    | cont => exact False.elim hq'
theorem pe_mke (c : MakE X.prog X.w X.K X.mg X.base k x C ks sp) (hr : Room j X.A) (hk : k + 1 ≤ j) (hg : Gl X x) (ha : PA X (e :: es) t) (hkw : PK X kws tk)
    (hall : (backToKw pos (keywordEach kws X.env)).all (·.1.isSome) = true := by rfl) (hks : (backToKw pos (keywordEach kws X.env)).filterMap (·.1) = ks := by rfl) (hdb : (x == ("__debug__" : Str)) = false := by decide)
    (he : starEach (e :: es) X.env = (false, eval e X.env) :: starEach es X.env := by rfl) (hpl : ((backTo pos (starEach (e :: es) X.env)).any (·.1) || (backToKw pos (keywordEach kws X.env)).any (·.1.isNone)) = false := by rfl) :
    PE X (.Call (.Name x p) (e :: es) kws pos) (tMakE sp ks.length C t tk) := by
  obtain ⟨f, T, F, hm⟩ := c.ex
  constructor
  intro pins s σ H Q I h
  refine wpAny_Call_Name_kw (ld_glob I hg hm ?_ hdb)
  refine PySem.W.callWith_KW (h₀ := X.base) I.ok.mod.kin T.kC hall (thn (ha.run pos pins s σ H _ I h) ?_) hpl he
  rintro us s1 ⟨vs, H1, I1, r1, q1⟩
  refine thn (hkw.run pos pins s1 σ H1 _ I1 q1) ?_
  rintro ws s2 ⟨zs, H2, I2, rz, hl, hz, q2⟩
  refine ⟨I2.kIn, ?_⟩
  rw [hks]
  exact run_mke T F (hr.mono hk) I2 r1 rz hl hz q2
theorem pe_mkeK (c : MakE X.prog X.w X.K X.mg X.base k x C ks sp) (hr : Room j X.A) (hk : k + 1 ≤ j) (hg : Gl X x) (hkw : PK X kws tk)
    (hall : (backToKw pos (keywordEach kws X.env)).all (·.1.isSome) = true := by rfl) (hks : (backToKw pos (keywordEach kws X.env)).filterMap (·.1) = ks := by rfl) (hdb : (x == ("__debug__" : Str)) = false := by decide)
    (hpl : ((backTo pos (starEach [] X.env)).any (·.1) || (backToKw pos (keywordEach kws X.env)).any (·.1.isNone)) = false := by rfl) :
    PE X (.Call (.Name x p) [] kws pos) (tMakE sp ks.length C tNil tk) := by
  obtain ⟨f, T, F, hm⟩ := c.ex
  constructor
  intro pins s σ H Q I h
  refine wpAny_Call_Name_kw (ld_glob I hg hm ?_ hdb)
  refine PySem.W.callWith_KW0 (h₀ := X.base) I.ok.mod.kin T.kC hall (thn (hkw.run pos pins s σ H _ I h) ?_) hpl
  rintro ws s2 ⟨zs, H2, I2, rz, hl, hz, q2⟩
  refine ⟨I2.kIn, ?_⟩
  rw [hks]
  exact run_mke T F (hr.mono hk) I2 .nil rz hl hz q2
theorem pe_mke0 (c : MakE X.prog X.w X.K X.mg X.base k x C [] sp) (hr : Room j X.A) (hk : k + 1 ≤ j) (hg : Gl X x) (hdb : (x == ("__debug__" : Str)) = false := by decide) : PE X (.Call (.Name x p) [] [] pos) (tMakE sp 0 C tNil tNil) := by
  obtain ⟨f, T, F, hm⟩ := c.ex
  constructor
  intro pins s σ H Q I h
  obtain ⟨hl, hz, q2⟩ := h
  refine wpAny_Call_Name_kw (ld_glob I hg hm ?_ hdb)
  exact PySem.W.callWith_K0 I.kIn T.kC (run_mke (us := []) (ws := []) T F (hr.mono hk) I .nil .nil rfl hz q2)
end
theorem r_make {sp : List V → List V → Hp → VK → Prop} {m : Nat} {C : Addr} {t tk : TA} {σ : L2.St} {H : Hp} {Q : VK} (h : t σ H fun vs H1 => tk σ H1 fun zs H2 => zs.length = m ∧ vs.length ≤ 1000 ∧ ∀ a, H2 a = none → sp (.ref a :: vs) zs (upd H2 a (exo a C none)) (fun v H3 => v = .non ∧ Q (.ref a) H3)) : tMakE sp m C t tk σ H Q := h
/-- x.f, x such an exception -/
def tExF (K : PySem.W.Frag) (ta : TE) (f : Str) : TE := fun σ H Q => ta σ H fun x H1 => ∃ (a C fI dx : Addr) (fs : List (Str × V)) (v : V), x = .ref a ∧ H1 a = some (exo a C (some dx)) ∧ H1 dx = some (exd dx fs) ∧ ExG K C fI ∧ PySem.W.findIn K (.ref C) f = some none ∧ fs.lookup f = some v ∧ Q v H1
theorem pe_exf {X : Cx} (K : PySem.W.Frag) {e : Expr} {te : TE} {pos : Pos} {n : Str} (he : PE X e te) (hb : attributeBase e n X.env (eval e X.env) = eval e X.env := by rfl) (h : X.K = K := by rfl) : PE X (.Attribute e n pos) (tExF K te n) := by
  subst h
  refine ⟨fun pins s σ H Q I h => ?_⟩
  refine attr_of hb (thn (he.run pins s σ H _ I h) fun u s1 hh => ?_)
  obtain ⟨x, H1, I1, rx, a, C, fI, dx, fs, v, ex, ea, ed, T, hno, l, q⟩ := hh
  subst ex
  obtain rfl : u = Value.ref a := rx
  obtain ⟨t1, ho⟩ := exo_at I1.hok ea
  obtain ⟨mA, hns, hr⟩ := exd_at I1.hok ed
  obtain ⟨od, hod, hl⟩ := lookIn_ns hns
  obtain ⟨u, hu, ru⟩ := RelO.some_of (v := v) (o := mA n) (by rw [← l]; exact hr n)
  have J : PySem.W.InstAt s1.heap a { cls := .ref C, dict := some dx, data := .fields #[.ref t1, .none, .none, .none, .bool false, .none] } C (some od) := ⟨ho, rfl, rfl, hod⟩
  exact PySem.HandSPX.exc_get I1.kIn J T.ga T.gg T.exC (PySem.W.findObj_own T.hd hno rfl (by rw [hl, hu])) (handed_of ru) ⟨v, H1, I1.tok _, ru, q⟩
/-- isinstance(x, c), x such an exception -/
def rIsX (K : PySem.W.Frag) : List V → Hp → VK → Prop := fun xs H Q => ∃ (a C fI : Addr) (d : Option Addr) (c : V) (cv : Value) (b : Bool), xs = [.ref a, c] ∧ H a = some (exo a C d) ∧ (∀ dx, d = some dx → ∃ fs, H dx = some (exd dx fs)) ∧ ExG K C fI ∧ ClsV c cv ∧ PySem.W.kitOne K (.ref C) cv = some b ∧ Q (.bl b) H
theorem call_isX {X : Cx} (K : PySem.W.Frag) (h : X.K = K := by rfl) : CallR X (.builtin "isinstance") (rIsX K) := by
  subst h
  intro pins s σ H xs us Q I r h
  obtain ⟨a, C, fI, d, c, cv, b, rfl, ha, hdx, T, kc, e, q⟩ := h
  obtain ⟨u1, u2, rfl, r1, r2⟩ := vals2 r
  cases (show u1 = Value.ref a from r1)
  have e2 := kc.eq r2
  subst e2
  obtain ⟨t1, ho⟩ := exo_at I.hok ha
  obtain ⟨od, J⟩ : ∃ od, PySem.W.InstAt s.heap a { cls := .ref C, dict := d, data := .fields #[.ref t1, .none, .none, .none, .bool false, .none] } C od := by
    cases d with
    | none => exact ⟨none, ho, rfl, rfl, trivial⟩
    | some dx =>
      obtain ⟨fs, ed⟩ := hdx dx rfl
      obtain ⟨mA, hns, _⟩ := exd_at I.hok ed
      obtain ⟨od, hod, _⟩ := lookIn_ns hns
      exact ⟨some od, ho, rfl, rfl, hod⟩
  have hcl : (PySem.W.clsIn X.K C).isSome = true := by
    obtain ⟨cd, hc, _⟩ := PySem.W.any_some T.hd
    rw [hc]
    rfl
  exact PySem.W.kia_one (PySem.W.kitx_exc hcl T.ga T.gg T.exC T.ha T.hn T.ht T.hm) I.kIn J e (fun z => nomatch z) fun tk => ⟨.bl b, H, I.tok tk, rfl, q⟩
/-! ### such an exception raised -/
section
variable {X : Cx} {e : Expr} {es : List Expr} {ta : TA} {p pos : Pos}
theorem pmk_oexG {CX : CXT} {x : Str} {C fI : Addr} {k : Nat} {fd : FuncData} {ps : List Str} {sp : Sp} {ds : List Value} {dvs : List V} (T : ExG X.K C fI) (tyC : PySem.W.typeIn X.K (.ref C) = some (.type "type"))
    (F1 : FnOk X.prog X.w X.K X.mg X.base CX k fI fd ps sp) (hr : Room (k + 1) X.A) (hb : Binds X.K fd ps ds) (hd : Vals dvs ds) (hx : Passes CX X (fun _ _ _ => False)) (hg : Gl X x) (hm : X.mg x = some (.ref C)) (ha : PA X (e :: es) ta)
    (hdb : (x == ("__debug__" : Str)) = false := by decide) (he : starEach (e :: es) X.env = (false, eval e X.env) :: starEach es X.env := by rfl) (hpl : (backTo pos (starEach es X.env)).any (·.1) = false := by rfl) :
    PMk X (.Call (.Name x p) (e :: es) [] pos) (tMkO C sp dvs ta) := by
  intro pins s σ H Q I h
  obtain ⟨B, newId, initId, bmA, B', bmB, FB, SF, hin, hov, t1, t2, t3⟩ := T.b
  refine wpAny_Call_Name_kw (ld_glob I hg hm ?_ hdb)
  refine PySem.W.callWith_K (h₀ := X.base) I.ok.mod.kin T.kC (thn (ha.run pos pins s σ H _ I h) fun us s1 ⟨vs, H1, I1, r1, hz, q1⟩ => ⟨I1.kIn, ?_⟩) he hpl
  show wpAny _ _ (call (.ref C) us) _ _ _
  obtain ⟨hp, g, dr, tk, os⟩ := s1
  obtain ⟨nm, N, q, bs, bm, hdd, sn, sub, ab, col, dd, k0, k1, k2, k3, k5, hC, hbm⟩ := PySem.W.excInit_of I1.kIn hin
  have hsz : hp.objs.size ≤ hp.objs.size + 1 := Nat.le_succ _
  have hn : H1 (hp.objs.size + 1) = none := I1.hok.fresh hsz
  have hq := q1 (hp.objs.size + 1) hn
  have kk : ∀ b o, hp.get? b = some o → ((hp.push (PySem.W.kdv_tup us)).push (PySem.HandSPX.excO C hp.objs.size)).get? b = some o := fun b o e => Heap.get?_push_of_some _ (Heap.get?_push_of_some _ e)
  have hget : ((hp.push (PySem.W.kdv_tup us)).push (PySem.HandSPX.excO C hp.objs.size)).get? (hp.objs.size + 1) = some (PySem.HandSPX.excO C hp.objs.size) := by heap_get
  have I2 : L2.Inv X pins σ (upd H1 (hp.objs.size + 1) (exo (hp.objs.size + 1) C none)) ⟨(hp.push (PySem.W.kdv_tup us)).push (PySem.HandSPX.excO C hp.objs.size), g, dr, tk, os⟩ :=
    I1.laid (t' := tk) (a := hp.objs.size + 1) (o := exo (hp.objs.size + 1) C none) (h' := (hp.push (PySem.W.kdv_tup us)).push (PySem.HandSPX.excO C hp.objs.size)) kk hsz (exo_ok hget)
  have r2 : Vals (V.ref (hp.objs.size + 1) :: (vs ++ dvs)) (Value.ref (hp.objs.size + 1) :: (us ++ ds)) := .cons rfl (r1.append hd)
  have hl : (Value.ref (hp.objs.size + 1) :: us ++ ds).length = ps.length := by
    have e := r2.length
    rw [F1.len _ _ _ _ hq] at e
    exact e.symm
  have hus : us.length ≤ sizeLine := by
    rw [← Paired.length r1, sizeLine_eq]
    omega
  refine wpAny_call (ExK.call_kw (kw := []) FB ⟨(hbm B).trans t1, (hbm _).trans t2, (hbm _).trans t3⟩ hC (PySem.W.looks_findIn I1.kIn T.iC) (fun self => PySem.W.bind_fn I1.kIn self T.tI) hus
    (codeAny_mono (F1.run _ X.stack _ _ ⟨Value.ref (hp.objs.size + 1) :: us, []⟩ (Value.ref (hp.objs.size + 1) :: (us ++ ds)) _ _ (fun _ _ _ => False) (hr.make C us []) (I2.env0.make C us []) (hb _ (Value.ref (hp.objs.size + 1) :: us) I2.kIn hl) r2 hq) fun r s' hq' => ?_))
  cases r with
  | error er => exact hx pins σ _ _ er s' I2 hq'
  | ok fl =>
    cases fl with
    | ret u =>
      obtain ⟨v, H2, os2, bare2, un2, hok2, rv, ev, d, fs, ea, ed, hd1, q2⟩ := hq'
      subst ev
      obtain ⟨h2, g2, d2, t2, os'⟩ := s'
      exact ⟨rv, mk_end (raises_own T.exC tyC) I1 hsz kk un2 hok2 os2 bare2 ea ed hd1 q2⟩
    | next => exact False.elim hq'
    | brk => exact False.elim hq'
    | cont => exact False.elim hq'
end
/-- isinstance(e, c), e the exception with fields that the suite holds -/
def rIsEd (K : PySem.W.Frag) (D a dd : Addr) : List V → Hp → VK → Prop := fun xs H Q => ∃ (c : V) (cv : Value) (b : Bool) (fs : List (Str × V)), xs = [.ref a, c] ∧ H dd = some (.xd fs) ∧ ClsV c cv ∧ PySem.W.kitOne K (.ref D) cv = some b ∧ Q (.bl b) H
theorem call_isEd {X : Cx} {a D fI dd : Addr} {oe : Obj} {pn : List (Addr × Obj)} (T : ExG X.K D fI) (hz : Zc (.ref D) (some dd) oe) (hf : ∃ vs, oe.data = .fields vs) : CallR (X.suite a ((a, oe) :: pn)) (.builtin "isinstance") (rIsEd X.K D a dd) := by
  intro pins s σ H xs us Q I r h
  obtain ⟨c, cv, b, fs, rfl, ed, kc, e, q⟩ := h
  obtain ⟨u1, u2, rfl, r1, r2⟩ := vals2 r
  cases (show u1 = Value.ref a from r1)
  have e2 := kc.eq r2
  subst e2
  obtain ⟨hget, _⟩ := I.pin (a, oe) (List.mem_append.mpr (.inl List.mem_cons_self))
  obtain ⟨vs, hv⟩ := hf
  have hx : ObjOk X.prog X.w H s.heap dd (.xd fs) := I.hok dd _ ed
  obtain ⟨mA, hns, hr⟩ := hx
  obtain ⟨od, hod, _⟩ := lookIn_ns hns
  have J : PySem.W.InstAt s.heap a oe D (some od) := ⟨hget, hz.1, by unfold PySem.W.notCls; rw [hv] <;> rfl, by rw [hz.2]; exact hod⟩
  have hcl : (PySem.W.clsIn X.K D).isSome = true := by
    obtain ⟨cd, hc, _⟩ := PySem.W.any_some T.hd
    rw [hc]
    rfl
  exact PySem.W.kia_one (PySem.W.kitx_exc hcl T.ga T.gg T.exC T.ha T.hn T.ht T.hm) I.kIn J e (fun z => nomatch z) fun tk => ⟨.bl b, H, I.kept (t' := tk) fun _ _ z => z, rfl, q⟩
end Th
namespace Th
open PySem PySem.Spec PyProof.Rows L2
local macro_rules | `(tactic| walk_at "lk") => `(tactic| first
  | assumption
  | exact upd_same
  | (refine upd_old (by assumption) ?_; walk_at "lk")
  | (refine upd_diff (by assumption) ?_; walk_at "lk")
  | (refine upd_diff (Ne.symm (by assumption)) ?_; walk_at "lk"))
local macro_rules | `(tactic| walk_at "cnd") => `(tactic| first
  | omega
  | (refine ⟨by omega, by omega⟩)
  | (refine ⟨by omega, by omega, by omega⟩)
  | (refine .inl ⟨by omega, by omega⟩)
  | (refine .inr ⟨by omega, by omega⟩)
  | (exact (show CPow _ _ from ⟨by decide, by decide, by omega⟩))
  | decide +kernel
  | (unfold CMulW; decide +kernel)
  | (exact wide_div (b := 64) (by omega) (by omega) (by decide) (by decide)))
local macro_rules | `(tactic| walk_at "rd1") => `(tactic| first
  | (with_reducible refine r_seq ?_)
  | (with_reducible refine r_asg ?_)
  | (with_reducible refine r_ret ?_)
  | (with_reducible refine r_if ?_)
  | (with_reducible refine r_gname ?_)
  | ((with_reducible refine' r_var ?hv ?_); (case hv => exact rfl))
  | (with_reducible refine r_c ?_)
  | (with_reducible refine r_op ?_)
  | (with_reducible refine r_I0 ?_)
  | ((with_reducible refine r_I ?hc ?_); (case hc => walk_at "cnd"))
  | (with_reducible refine r_test ?_)
  | (with_reducible refine r_tB ?_)
  | (with_reducible refine r_bl ?_)
  | (with_reducible refine r_not ?_)
  | (with_reducible refine r_and ?_)
  | (with_reducible refine r_or ?_)
  | (with_reducible refine r_ifE ?_)
  | (with_reducible refine r_notV ?_)
  | (with_reducible refine r_andV ?_)
  | (with_reducible refine r_orV ?_)
  | (with_reducible refine r_chain ?_)
  | (with_reducible refine r_cb ?_)
  | (with_reducible refine r_call ?_)
  | (with_reducible refine r_callN ?_)
  | (with_reducible refine r_nil ?_)
  | (with_reducible refine r_cons ?_)
  | ((with_reducible refine r_lst ?_))
  | ((with_reducible refine r_tup ?_))
  | ((with_reducible refine r_new ?_ ?_); (exact Nat.le_of_ble_eq_true rfl); (intro p hp))
  | (with_reducible refine r_rInt1 ?_)
  | (with_reducible refine r_rIntB ?_)
  | (with_reducible refine r_rAbs ?_)
  | (with_reducible refine r_rMin2 ?_)
  | (with_reducible refine r_rMax2 ?_)
  | ((with_reducible refine r_rLenZ ?hz ?_); (case hz => first | assumption | exact Nat.le_of_ble_eq_true rfl | (refine Nat.le_trans ?_ (by decide : 100000 ≤ sizeLine); omega)))
  | ((with_reducible refine r_addZ ?hz ?_); (case hz => (refine Nat.le_trans ?_ (by decide : 100000 ≤ sizeLine); first | omega | (simp only [Str.length] at *; simp; omega))))
  | ((with_reducible refine r_mulZ ?hz ?h0 ?h1 ?_); (case hz => first | omega | exact Nat.le_of_ble_eq_true rfl); (case h0 => omega); (case h1 => omega))
  | ((with_reducible refine' r_rLenQ ?h1 ?_); (case h1 => first | (exact .inl (by assumption)) | (exact .inr (by assumption)) | (exact .inl (SqL.of (by walk_at "lk"))) | (exact .inr (SqT.of (by walk_at "lk")))))
  | ((with_reducible refine r_eq ?hs ?_); (case hs => exact rfl))
  | ((with_reducible refine r_ne ?hs ?_); (case hs => exact rfl))
  | (with_reducible refine r_inC ?_)
  | ((with_reducible refine' r_cat ?h1 ?h2 ?h3 ?_); (case h1 => walk_at "lk"); (case h2 => walk_at "lk"); (case h3 => exact Nat.le_of_ble_eq_true rfl); (intro p hp))
  | ((with_reducible refine' r_rep ?h1 ?h2 ?h3 ?h4 ?_); (case h1 => walk_at "lk"); (case h2 => omega); (case h3 => omega); (case h4 => exact Nat.le_of_ble_eq_true rfl); (intro p hp))
  | ((with_reducible refine' r_append ?h1 ?h2 ?_); (case h1 => walk_at "lk"); (case h2 => first | exact (show _ + 1 ≤ sizeLine from Nat.le_of_ble_eq_true rfl) | exact Nat.lt_of_le_of_lt (by omega : _ ≤ 100000) (by decide)))
  | (with_reducible refine r_bm ?_)
  | ((with_reducible refine' r_tyL ?h1 ?_); (case h1 => walk_at "lk"))
  | ((with_reducible refine' r_ixL ?h1 ?h2 ?_); (case h1 => first | assumption | exact SqL.of (by walk_at "lk")); (case h2 => exact rfl))
  | ((with_reducible refine' r_ixT ?h1 ?h2 ?_); (case h1 => first | assumption | exact SqT.of (by walk_at "lk")); (case h2 => exact rfl))
  | (with_reducible refine r_gsub ?_)
  | ((with_reducible refine' r_setL ?h1 ?h2 ?_); (case h1 => walk_at "lk"); (case h2 => exact rfl))
  | (with_reducible refine r_un ?_)
  | (with_reducible refine r_neg ?_)
  | (with_reducible refine r_iteT ?_)
  | (with_reducible refine r_iteNT ?_)
  | (with_reducible refine r_iteNF ?_)
  | (with_reducible refine r_iteF ?_)
  | (with_reducible refine r_next ?_)
  | (with_reducible refine r_drop ?_)
  | (with_reducible refine r_cont ?_)
  | (with_reducible refine r_brk ?_))
local macro_rules | `(tactic| walk_at "ty") => `(tactic| first
  | assumption
  | exact .base (.int _)
  | exact .base (.str _)
  | exact .base (.bl _)
  | exact .base .non
  | exact .byt _
  | exact .base (.lst (by walk_at "lk"))
  | exact .base (.tup (by walk_at "lk")))
local macro_rules | `(tactic| walk_at "rd2") => `(tactic| first
  | walk_at "rd1"
  | ((with_reducible refine' r_isi true ?ht ?hk ?_); (case ht => walk_at "ty"); (case hk => first | assumption | decide +kernel))
  | ((with_reducible refine' r_isi false ?ht ?hk ?_); (case ht => walk_at "ty"); (case hk => first | assumption | decide +kernel))
  | ((with_reducible refine' r_isiT2 true true ?hT ?ht ?hk ?hk2 ?_); (case hT => walk_at "lk"); (case ht => walk_at "ty"); (case hk => decide +kernel); (case hk2 => decide +kernel))
  | ((with_reducible refine' r_isiT2 true false ?hT ?ht ?hk ?hk2 ?_); (case hT => walk_at "lk"); (case ht => walk_at "ty"); (case hk => decide +kernel); (case hk2 => decide +kernel))
  | ((with_reducible refine' r_isiT2 false true ?hT ?ht ?hk ?hk2 ?_); (case hT => walk_at "lk"); (case ht => walk_at "ty"); (case hk => decide +kernel); (case hk2 => decide +kernel))
  | ((with_reducible refine' r_isiT2 false false ?hT ?ht ?hk ?hk2 ?_); (case hT => walk_at "lk"); (case ht => walk_at "ty"); (case hk => decide +kernel); (case hk2 => decide +kernel))
  | (with_reducible refine r_iteNT ?_)
  | ((show (if (!true) = true then _ else _)); refine r_iteNT ?_)
  | (with_reducible refine r_r1 ?_)
  | (with_reducible refine r_maks ?_)
  | (with_reducible refine r_sfld ?_)
  | ((with_reducible refine' r_sfldE ?h1 ?h2 ?h3 ?h4 ?_); (case h1 => walk_at "lk"); (case h2 => assumption); (case h3 => assumption); (case h4 => exact (show _ + 1 ≤ 1000 from Nat.le_of_ble_eq_true rfl)))
  | (with_reducible refine r_fld ?_)
  | (with_reducible refine r_join ?_)
  | (with_reducible refine r_jcons ?_)
  | (with_reducible refine r_jnil ?_)
  | ((with_reducible refine r_rLenY ?hz ?_); (case hz => first | assumption | (refine Nat.le_trans ?_ (by decide : 100000 ≤ sizeLine); omega)))
  | (with_reducible refine r_par ?_)
  | (with_reducible refine r_pair ?_)
  | (with_reducible refine r_par3 ?_)
  | (with_reducible refine r_trip ?_)
  | ((with_reducible refine' r_gtup ?h1 ?h2 ?_); (case h1 => first | assumption | exact SqT.of (by walk_at "lk")); (case h2 => exact rfl))
  | (with_reducible refine r_gcons ?_)
  | (with_reducible refine r_gnil ?_)
  | ((with_reducible refine' r_slL ?h1 ?_); (case h1 => first | assumption | exact SqL.of (by walk_at "lk")); (intro p hp))
  | (with_reducible refine r_iTup ?_)
  | ((with_reducible refine' r_tupE ?h1 ?_); (case h1 => first | assumption | exact SqT.of (by walk_at "lk")))
  | (with_reducible refine r_m1 ?_)
  | (with_reducible refine r_isZ ?_)
  | (with_reducible refine r_sl ?_)
  | (with_reducible refine r_noPart ?_)
  | (with_reducible refine r_part ?_)
  | (with_reducible refine r_partE ?_)
  | ((with_reducible refine r_slS ?hz ?_); (case hz => first | assumption | (refine Nat.le_trans ?_ (by decide : 100000 ≤ sizeLine); omega)))
  | ((with_reducible refine' r_inT ?h1 ?h2 ?h3 ?_); (case h1 => first | assumption | (exact SqT.of (by walk_at "lk"))); (case h2 => exact rfl); (case h3 => exact rfl))
  | ((with_reducible refine' r_inL ?h1 ?h2 ?h3 ?_); (case h1 => first | assumption | (exact SqL.of (by walk_at "lk"))); (case h2 => exact rfl); (case h3 => exact rfl))
  | (with_reducible refine r_lc ?_)
  | (with_reducible refine r_for ?_)
  | (with_reducible refine r_iStr ?_)
  | (with_reducible refine r_strE ?_)
  | (with_reducible refine r_iList ?_)
  | ((with_reducible refine' r_listE ?h1 ?_); (case h1 => first | assumption | exact SqL.of (by walk_at "lk")))
  | (with_reducible refine r_iRng1 ?_)
  | ((with_reducible refine' r_rngE ?h0 ?h1 ?_); (case h0 => first | omega | (split <;> omega)); (case h1 => first | omega | (split <;> omega))))
local macro_rules | `(tactic| walk_at "rd") => `(tactic| (repeat walk_at "rd2"))
local macro_rules | `(tactic| walk_at "st") => `(tactic| (repeat (first
  | (with_reducible refine r_gname ?_)
  | (with_reducible refine r_next ?_)
  | (with_reducible refine r_seq ?_)
  | (with_reducible refine r_asg ?_)
  | (with_reducible refine r_ret ?_)
  | (with_reducible refine r_for ?_)
  | (with_reducible refine r_iRng1 ?_)
  | (with_reducible refine r_iList ?_)
  | (with_reducible refine r_cons ?_)
  | (with_reducible refine r_par ?_)
  | (with_reducible refine r_par3 ?_))))
/-! ### calls that may raise; defs that may lean on it that nothing is being shown -/
structure CalX (P : Program) (w : World) (K : PySem.W.Frag) (mg : Str → Option Value) (base : Heap) (k : Nat) (x : Str) (sp : Sp) : Prop where
  ex : ∃ (f : Addr) (fd : FuncData) (ps : List Str), FnOk P w K mg base (L2.CX P w) k f fd ps sp ∧ mg x = some (.ref f) ∧ PySem.W.keepIn K (.ref f) = true ∧ Binds K fd ps []
structure CalG (P : Program) (w : World) (K : PySem.W.Frag) (mg : Str → Option Value) (base : Heap) (k : Nat) (x : Str) (sp : Sp) : Prop where
  ex : ∃ (f : Addr) (fd : FuncData) (ps : List Str), FnG P w K mg base k f fd ps sp ∧ mg x = some (.ref f) ∧ PySem.W.keepIn K (.ref f) = true ∧ Binds K fd ps []
section
variable {X : Cx} {j k : Nat} {x : Str} {sp : Sp} {e : Expr} {es : List Expr} {p pos : Pos} {t : TA}
theorem pe_ccX {E : L2.St → XK} (c : CalX X.prog X.w X.K X.mg X.base k x sp) (hr : Room j X.A) (hk : k ≤ j) (hg : Gl X x) (hx : ∀ σ, PassesAt (L2.CX X.prog X.w) X σ (E σ)) (ha : PA X (e :: es) t) (hdb : (x == ("__debug__" : Str)) = false := by decide)
    (he : starEach (e :: es) X.env = (false, eval e X.env) :: starEach es X.env := by rfl) (hpl : (backTo pos (starEach es X.env)).any (·.1) = false := by rfl) : PE X (.Call (.Name x p) (e :: es) [] pos) (tCallS sp E t) := by
  obtain ⟨f, fd, ps, F, hm, kp, b⟩ := c.ex
  exact pe_callS F (hr.mono hk) hg hm kp b hx ha hdb he hpl
theorem run_fnG {pins : List (Addr × Obj)} {σ : L2.St} {H : Hp} {s : Shared} {Q : VK} {f : Addr} {fd : FuncData} {ps : List Str} {us : List Value} {vs : List V} (F : FnG X.prog X.w X.K X.mg X.base k f fd ps sp) (gd : X.A.guards = some []) (hr : Room k X.A) (hb : Binds X.K fd ps [])
    (I : Inv X pins σ H s) (r : Vals vs us) (h : sp (vs ++ []) H Q E0) : wpAny (model X.prog X.w) X.A (call (.ref f) us) (EP X pins σ Q) X.xe s := by
  rw [List.append_nil] at h
  have hl : us.length = ps.length := by rw [← r.length]; exact F.len _ _ _ _ h
  have b := hb s us I.kIn (by rw [List.append_nil]; exact hl)
  rw [List.append_nil] at b
  refine wpAny_call (codeAny_mono (F.run X.A X.stack s H ⟨us, []⟩ us vs Q E0 hr gd I.env0 b r h) fun r s' hq => ?_)
  cases r with
  | error e => exact False.elim hq
  | ok fl =>
    cases fl with
    | ret u => exact I.after hq
    | next => exact False.elim hq
    | brk => exact False.elim hq
    | cont => exact False.elim hq
theorem pe_ccG (c : CalG X.prog X.w X.K X.mg X.base k x sp) (gd : X.A.guards = some []) (hr : Room j X.A) (hk : k ≤ j) (hg : Gl X x) (ha : PA X (e :: es) t) (hdb : (x == ("__debug__" : Str)) = false := by decide)
    (he : starEach (e :: es) X.env = (false, eval e X.env) :: starEach es X.env := by rfl) (hpl : (backTo pos (starEach es X.env)).any (·.1) = false := by rfl) : PE X (.Call (.Name x p) (e :: es) [] pos) (tCall sp [] E0 t) := by
  obtain ⟨f, fd, ps, F, hm, kp, b⟩ := c.ex
  refine ⟨fun pins s σ H Q I h => ?_⟩
  refine wpAny_Call_Name_kw (ld_glob I hg hm ?_ hdb)
  refine PySem.W.callWith_K (h₀ := X.base) I.ok.mod.kin kp (thn (ha.run pos pins s σ H _ I h) fun us s1 ⟨vs, H1, I1, r, q⟩ => ⟨I1.kIn, ?_⟩) he hpl
  exact run_fnG F gd (hr.mono hk) b I1 r q
end
/-! ### the error in the suite: isinstance, a field -/
def rIsE (K : PySem.W.Frag) (a : Addr) (cls : Value) (d : Option Addr) : List V → Hp → VK → Prop := fun xs H Q => ∃ D fI dd, ExG K D fI ∧ cls = .ref D ∧ d = some dd ∧ rIsEd K D a dd xs H Q
theorem call_isE {X : Cx} {a : Addr} {oe : Obj} {cls : Value} {d : Option Addr} {pn : List (Addr × Obj)} (K : PySem.W.Frag) (hz : Zc cls d oe) (hf : ∃ vs, oe.data = .fields vs) (h : X.K = K := by rfl) : CallR (X.suite a ((a, oe) :: pn)) (.builtin "isinstance") (rIsE K a cls d) := by
  subst h
  intro pins s σ H xs us Q I r h
  obtain ⟨D, fI, dd, T, rfl, rfl, h⟩ := h
  exact call_isEd T hz hf pins s σ H xs us Q I r h
def rIsEt (K : PySem.W.Frag) (a : Addr) (cls : Value) (d : Option Addr) : List V → Hp → VK → Prop := fun xs H Q => ∃ (D fI dd tp : Addr) (cs : List V) (ws : List Value) (b : Bool) (fs : List (Str × V)), ExG K D fI ∧ cls = .ref D ∧ d = some dd ∧ xs = [.ref a, .ref tp] ∧ H dd = some (.xd fs) ∧ H tp = some (.tup cs) ∧ Paired ClsV cs ws ∧ PySem.W.kitAny K (.ref D) ws = some b ∧ Q (.bl b) H
theorem call_isEt {X : Cx} {a : Addr} {oe : Obj} {cls : Value} {d : Option Addr} {pn : List (Addr × Obj)} (K : PySem.W.Frag) (hz : Zc cls d oe) (hf : ∃ vs, oe.data = .fields vs) (h : X.K = K := by rfl) : CallR (X.suite a ((a, oe) :: pn)) (.builtin "isinstance") (rIsEt K a cls d) := by
  subst h
  intro pins s σ H xs us Q I r h
  obtain ⟨D, fI, dd, tp, cs, ws, b, fs, T, rfl, rfl, rfl, ed, hT, kc, e, q⟩ := h
  obtain ⟨u1, u2, rfl, r1, r2⟩ := vals2 r
  cases (show u1 = Value.ref a from r1)
  cases (show u2 = Value.ref tp from r2)
  obtain ⟨hget, _⟩ := I.pin (a, oe) (List.mem_append.mpr (.inl List.mem_cons_self))
  obtain ⟨vs, hv⟩ := hf
  have hx : ObjOk X.prog X.w H s.heap dd (.xd fs) := I.hok dd _ ed
  obtain ⟨mA, hns, hr⟩ := hx
  obtain ⟨od, hod, _⟩ := lookIn_ns hns
  have J : PySem.W.InstAt s.heap a oe D (some od) := ⟨hget, hz.1, by unfold PySem.W.notCls; rw [hv] <;> rfl, by rw [hz.2]; exact hod⟩
  have hcl : (PySem.W.clsIn X.K D).isSome = true := by
    obtain ⟨cd, hc, _⟩ := PySem.W.any_some T.hd
    rw [hc]
    rfl
  obtain ⟨_, its, rv, o, h1, h2, n, h3⟩ := (show ObjOk X.prog X.w H s.heap tp (.tup cs) from I.hok tp _ hT)
  have e3 := ClsV.all kc rv
  subst e3
  obtain ⟨oc, odx, dt, sl⟩ := o
  simp only at h2 h3
  subst h2 h3
  exact PySem.W.kia_tup (PySem.W.kitx_exc hcl T.ga T.gg T.exC T.ha T.hn T.ht T.hm) I.kIn J h1 e (fun z => nomatch z) fun tk => ⟨.bl b, H, I.kept (t' := tk) fun _ _ z => z, rfl, q⟩
/-- e.f, e the exception that the suite holds -/
def tSuF (K : PySem.W.Frag) (a : Addr) (cls : Value) (d : Option Addr) (f : Str) (te : TE) : TE := fun σ H Q => te σ H fun x H1 => ∃ (D fI dd : Addr) (fs : List (Str × V)) (v : V), ExG K D fI ∧ PySem.W.findIn K (.ref D) f = some none ∧ cls = .ref D ∧ d = some dd ∧ x = .ref a ∧ H1 dd = some (.xd fs) ∧ List.lookup f fs = some v ∧ Q v H1
theorem pe_suF {X : Cx} {a : Addr} {oe : Obj} {cls : Value} {d : Option Addr} {pn : List (Addr × Obj)} {e : Expr} {te : TE} {pos : Pos} {f : Str} (K : PySem.W.Frag) (hz : Zc cls d oe) (hf : ∃ vs, oe.data = .fields vs) (he : PE (X.suite a ((a, oe) :: pn)) e te)
    (hb : attributeBase e f X.env (eval e X.env) = eval e X.env := by rfl) (h : X.K = K := by rfl) : PE (X.suite a ((a, oe) :: pn)) (.Attribute e f pos) (tSuF K a cls d f te) := by
  subst h
  refine ⟨fun pins s σ H Q I h => ?_⟩
  refine attr_of hb (thn (he.run pins s σ H _ I h) fun u s1 hh => ?_)
  obtain ⟨x, H1, I1, rx, D, fI, dd, fs, v, T, hno, rfl, rfl, rfl, ea, l, q⟩ := hh
  obtain rfl : u = Value.ref a := rx
  obtain ⟨ha, _⟩ := I1.pin (a, oe) (List.mem_append_left _ List.mem_cons_self)
  obtain ⟨vs, hd⟩ := hf
  have hx : ObjOk X.prog X.w H1 s1.heap dd (.xd fs) := I1.hok dd _ ea
  obtain ⟨mA, hns, hr⟩ := hx
  obtain ⟨od, ho, hl⟩ := lookIn_ns hns
  obtain ⟨u, hu, ru⟩ := RelO.some_of (v := v) (o := mA f) (by rw [← l]; exact hr f)
  have J : PySem.W.InstAt s1.heap a oe D (some od) := ⟨ha, hz.1, by unfold PySem.W.notCls; rw [hd] <;> rfl, by rw [hz.2]; exact ho⟩
  exact HandSPX.exc_get I1.kIn J T.ga T.gg T.exC (PySem.W.findObj_own T.hd hno rfl (by rw [hl, hu])) (handed_of ru) ⟨v, H1, I1.tok _, ru, q⟩
/-! ### repr of any of these values -/
def rReprX (K : PySem.W.Frag) : List V → Hp → VK → Prop := fun xs H Q => (xs = [.non] ∧ Q (.str "None") H) ∨ (∃ i : Int, xs = [.int i] ∧ i.natAbs.log2 < 1920 ∧ Q (.str (toString i)) H) ∨ (∃ z, xs = [.str z] ∧ (reprText z).length ≤ sizeLine ∧ Q (.str (reprText z)) H) ∨
  (∃ b, xs = [.byt b] ∧ b.size ≤ 5000 ∧ Q (.str (Builtin.Bytes.literal b)) H) ∨ rRepr K xs H Q
theorem call_reprX {X : Cx} (K : PySem.W.Frag) (gd : X.A.guards = some []) (hu : X.A.units + 64 < cLine) (h : X.K = K := by rfl) : CallR X (.builtin "repr") (rReprX K) := by
  intro pins s σ H xs us Q I r h0
  rcases h0 with ⟨rfl, q⟩ | ⟨i, rfl, hz, q⟩ | ⟨z, rfl, hz, q⟩ | ⟨b, rfl, hz, q⟩ | h0
  · obtain ⟨u, rfl, rx⟩ := vals1 r
    cases (show u = Value.none from rx)
    exact PySem.P.repr_of_none ⟨.str _, H, I.tok _, ⟨_, rfl⟩, q⟩
  · obtain ⟨u, rfl, t, rfl⟩ := vals1 r
    exact PySem.P.repr_of_int hz ⟨.str _, H, I.tok _, ⟨_, rfl⟩, q⟩
  · obtain ⟨u, rfl, t, rfl⟩ := vals1 r
    exact PySem.P.repr_of_str ⟨.str _, H, I.tok _, ⟨_, rfl⟩, q⟩ hz
  · obtain ⟨u, rfl, t, rfl⟩ := vals1 r
    exact PySem.BtR.repr_of_bytes hz ⟨.str _, H, I.tok _, ⟨_, rfl⟩, q⟩
  · exact call_reprK K gd hu h pins s σ H xs us Q I r h0
end Th
namespace Th
open PySem PySem.Spec PyProof.Rows L2
local macro_rules | `(tactic| walk_at "lk") => `(tactic| first
  | assumption
  | exact upd_same
  | (refine upd_old (by assumption) ?_; walk_at "lk")
  | (refine upd_diff (by assumption) ?_; walk_at "lk")
  | (refine upd_diff (Ne.symm (by assumption)) ?_; walk_at "lk"))
local macro_rules | `(tactic| walk_at "cnd") => `(tactic| first
  | omega
  | (refine ⟨by omega, by omega⟩)
  | (refine ⟨by omega, by omega, by omega⟩)
  | (refine .inl ⟨by omega, by omega⟩)
  | (refine .inr ⟨by omega, by omega⟩)
  | (exact (show CPow _ _ from ⟨by decide, by decide, by omega⟩))
  | decide +kernel
  | (unfold CMulW; decide +kernel)
  | (exact wide_div (b := 64) (by omega) (by omega) (by decide) (by decide)))
local macro_rules | `(tactic| walk_at "rd1") => `(tactic| first
  | (with_reducible refine r_seq ?_)
  | (with_reducible refine r_asg ?_)
  | (with_reducible refine r_ret ?_)
  | (with_reducible refine r_if ?_)
  | (with_reducible refine r_gname ?_)
  | ((with_reducible refine' r_var ?hv ?_); (case hv => exact rfl))
  | (with_reducible refine r_c ?_)
  | (with_reducible refine r_op ?_)
  | (with_reducible refine r_I0 ?_)
  | ((with_reducible refine r_I ?hc ?_); (case hc => walk_at "cnd"))
  | (with_reducible refine r_test ?_)
  | (with_reducible refine r_tB ?_)
  | (with_reducible refine r_bl ?_)
  | (with_reducible refine r_not ?_)
  | (with_reducible refine r_and ?_)
  | (with_reducible refine r_or ?_)
  | (with_reducible refine r_ifE ?_)
  | (with_reducible refine r_notV ?_)
  | (with_reducible refine r_andV ?_)
  | (with_reducible refine r_orV ?_)
  | (with_reducible refine r_chain ?_)
  | (with_reducible refine r_cb ?_)
  | (with_reducible refine r_call ?_)
  | (with_reducible refine r_callN ?_)
  | (with_reducible refine r_nil ?_)
  | (with_reducible refine r_cons ?_)
  | ((with_reducible refine r_lst ?_))
  | ((with_reducible refine r_tup ?_))
  | ((with_reducible refine r_new ?_ ?_); (exact Nat.le_of_ble_eq_true rfl); (intro p hp))
  | (with_reducible refine r_rInt1 ?_)
  | (with_reducible refine r_rIntB ?_)
  | (with_reducible refine r_rAbs ?_)
  | (with_reducible refine r_rMin2 ?_)
  | (with_reducible refine r_rMax2 ?_)
  | ((with_reducible refine r_rLenZ ?hz ?_); (case hz => first | assumption | exact Nat.le_of_ble_eq_true rfl | (refine Nat.le_trans ?_ (by decide : 100000 ≤ sizeLine); omega)))
  | ((with_reducible refine r_addZ ?hz ?_); (case hz => (refine Nat.le_trans ?_ (by decide : 100000 ≤ sizeLine); first | omega | (simp only [Str.length] at *; simp; omega))))
  | ((with_reducible refine r_mulZ ?hz ?h0 ?h1 ?_); (case hz => first | omega | exact Nat.le_of_ble_eq_true rfl); (case h0 => omega); (case h1 => omega))
  | ((with_reducible refine' r_rLenQ ?h1 ?_); (case h1 => first | (exact .inl (by assumption)) | (exact .inr (by assumption)) | (exact .inl (SqL.of (by walk_at "lk"))) | (exact .inr (SqT.of (by walk_at "lk")))))
  | ((with_reducible refine r_eq ?hs ?_); (case hs => exact rfl))
  | ((with_reducible refine r_ne ?hs ?_); (case hs => exact rfl))
  | (with_reducible refine r_inC ?_)
  | ((with_reducible refine' r_cat ?h1 ?h2 ?h3 ?_); (case h1 => walk_at "lk"); (case h2 => walk_at "lk"); (case h3 => exact Nat.le_of_ble_eq_true rfl); (intro p hp))
  | ((with_reducible refine' r_rep ?h1 ?h2 ?h3 ?h4 ?_); (case h1 => walk_at "lk"); (case h2 => omega); (case h3 => omega); (case h4 => exact Nat.le_of_ble_eq_true rfl); (intro p hp))
  | ((with_reducible refine' r_append ?h1 ?h2 ?_); (case h1 => walk_at "lk"); (case h2 => first | exact (show _ + 1 ≤ sizeLine from Nat.le_of_ble_eq_true rfl) | exact Nat.lt_of_le_of_lt (by omega : _ ≤ 100000) (by decide)))
  | (with_reducible refine r_bm ?_)
  | ((with_reducible refine' r_tyL ?h1 ?_); (case h1 => walk_at "lk"))
  | ((with_reducible refine' r_ixL ?h1 ?h2 ?_); (case h1 => first | assumption | exact SqL.of (by walk_at "lk")); (case h2 => exact rfl))
  | ((with_reducible refine' r_ixT ?h1 ?h2 ?_); (case h1 => first | assumption | exact SqT.of (by walk_at "lk")); (case h2 => exact rfl))
  | (with_reducible refine r_gsub ?_)
  | ((with_reducible refine' r_setL ?h1 ?h2 ?_); (case h1 => walk_at "lk"); (case h2 => exact rfl))
  | (with_reducible refine r_un ?_)
  | (with_reducible refine r_neg ?_)
  | (with_reducible refine r_iteT ?_)
  | (with_reducible refine r_iteNT ?_)
  | (with_reducible refine r_iteNF ?_)
  | (with_reducible refine r_iteF ?_)
  | (with_reducible refine r_next ?_)
  | (with_reducible refine r_drop ?_)
  | (with_reducible refine r_cont ?_)
  | (with_reducible refine r_brk ?_))
local macro_rules | `(tactic| walk_at "ty") => `(tactic| first
  | assumption
  | exact .base (.int _)
  | exact .base (.str _)
  | exact .base (.bl _)
  | exact .base .non
  | exact .byt _
  | exact .base (.lst (by walk_at "lk"))
  | exact .base (.tup (by walk_at "lk")))
local macro_rules | `(tactic| walk_at "rd2") => `(tactic| first
  | walk_at "rd1"
  | ((with_reducible refine' r_isi true ?ht ?hk ?_); (case ht => walk_at "ty"); (case hk => first | assumption | decide +kernel))
  | ((with_reducible refine' r_isi false ?ht ?hk ?_); (case ht => walk_at "ty"); (case hk => first | assumption | decide +kernel))
  | ((with_reducible refine' r_isiT2 true true ?hT ?ht ?hk ?hk2 ?_); (case hT => walk_at "lk"); (case ht => walk_at "ty"); (case hk => decide +kernel); (case hk2 => decide +kernel))
  | ((with_reducible refine' r_isiT2 true false ?hT ?ht ?hk ?hk2 ?_); (case hT => walk_at "lk"); (case ht => walk_at "ty"); (case hk => decide +kernel); (case hk2 => decide +kernel))
  | ((with_reducible refine' r_isiT2 false true ?hT ?ht ?hk ?hk2 ?_); (case hT => walk_at "lk"); (case ht => walk_at "ty"); (case hk => decide +kernel); (case hk2 => decide +kernel))
  | ((with_reducible refine' r_isiT2 false false ?hT ?ht ?hk ?hk2 ?_); (case hT => walk_at "lk"); (case ht => walk_at "ty"); (case hk => decide +kernel); (case hk2 => decide +kernel))
  | (with_reducible refine r_iteNT ?_)
  | ((show (if (!true) = true then _ else _)); refine r_iteNT ?_)
  | (with_reducible refine r_r1 ?_)
  | (with_reducible refine r_maks ?_)
  | (with_reducible refine r_sfld ?_)
  | ((with_reducible refine' r_sfldE ?h1 ?h2 ?h3 ?h4 ?_); (case h1 => walk_at "lk"); (case h2 => assumption); (case h3 => assumption); (case h4 => exact (show _ + 1 ≤ 1000 from Nat.le_of_ble_eq_true rfl)))
  | (with_reducible refine r_fld ?_)
  | (with_reducible refine r_join ?_)
  | (with_reducible refine r_jcons ?_)
  | (with_reducible refine r_jnil ?_)
  | ((with_reducible refine r_rLenY ?hz ?_); (case hz => first | assumption | (refine Nat.le_trans ?_ (by decide : 100000 ≤ sizeLine); omega)))
  | (with_reducible refine r_par ?_)
  | (with_reducible refine r_pair ?_)
  | (with_reducible refine r_par3 ?_)
  | (with_reducible refine r_trip ?_)
  | ((with_reducible refine' r_gtup ?h1 ?h2 ?_); (case h1 => first | assumption | exact SqT.of (by walk_at "lk")); (case h2 => exact rfl))
  | (with_reducible refine r_gcons ?_)
  | (with_reducible refine r_gnil ?_)
  | ((with_reducible refine' r_slL ?h1 ?_); (case h1 => first | assumption | exact SqL.of (by walk_at "lk")); (intro p hp))
  | (with_reducible refine r_iTup ?_)
  | ((with_reducible refine' r_tupE ?h1 ?_); (case h1 => first | assumption | exact SqT.of (by walk_at "lk")))
  | (with_reducible refine r_m1 ?_)
  | (with_reducible refine r_isZ ?_)
  | (with_reducible refine r_sl ?_)
  | (with_reducible refine r_noPart ?_)
  | (with_reducible refine r_part ?_)
  | (with_reducible refine r_partE ?_)
  | ((with_reducible refine r_slS ?hz ?_); (case hz => first | assumption | (refine Nat.le_trans ?_ (by decide : 100000 ≤ sizeLine); omega)))
  | ((with_reducible refine' r_inT ?h1 ?h2 ?h3 ?_); (case h1 => first | assumption | (exact SqT.of (by walk_at "lk"))); (case h2 => exact rfl); (case h3 => exact rfl))
  | ((with_reducible refine' r_inL ?h1 ?h2 ?h3 ?_); (case h1 => first | assumption | (exact SqL.of (by walk_at "lk"))); (case h2 => exact rfl); (case h3 => exact rfl))
  | (with_reducible refine r_lc ?_)
  | (with_reducible refine r_for ?_)
  | (with_reducible refine r_iStr ?_)
  | (with_reducible refine r_strE ?_)
  | (with_reducible refine r_iList ?_)
  | ((with_reducible refine' r_listE ?h1 ?_); (case h1 => first | assumption | exact SqL.of (by walk_at "lk")))
  | (with_reducible refine r_iRng1 ?_)
  | ((with_reducible refine' r_rngE ?h0 ?h1 ?_); (case h0 => first | omega | (split <;> omega)); (case h1 => first | omega | (split <;> omega))))
local macro_rules | `(tactic| walk_at "rd") => `(tactic| (repeat walk_at "rd2"))
local macro_rules | `(tactic| walk_at "st") => `(tactic| (repeat (first
  | (with_reducible refine r_gname ?_)
  | (with_reducible refine r_next ?_)
  | (with_reducible refine r_seq ?_)
  | (with_reducible refine r_asg ?_)
  | (with_reducible refine r_ret ?_)
  | (with_reducible refine r_for ?_)
  | (with_reducible refine r_iRng1 ?_)
  | (with_reducible refine r_iList ?_)
  | (with_reducible refine r_cons ?_)
  | (with_reducible refine r_par ?_)
  | (with_reducible refine r_par3 ?_))))
/-! ### copied, of any value -/
theorem none_old {H H' : Hp} {a : Addr} (h : H' a = none) (e : ∀ o, H a = some o → ∃ o', H' a = some o') : H a = none := by
  cases q : H a with
  | none => rfl
  | some o =>
    obtain ⟨o', e'⟩ := e o q
    rw [h] at e'
    cases e'
theorem none_same {H H' : Hp} {p : Addr} (e : Same H H') (hp : H' p = none) : H p = none := none_old hp fun o eo => ⟨o, e _ _ eo⟩
/-- what was not there before -/
def fresh (H H' : Hp) : Hp := fun b => match H b with
  | none => H' b
  | some _ => none
theorem fresh_sub {H H' : Hp} : ∀ b o, fresh H H' b = some o → H' b = some o := fun b o e => by
  unfold fresh at e
  cases h : H b with
  | none => rw [h] at e; exact e
  | some x => rw [h] at e; cases e
theorem fresh_at {H H' : Hp} {b : Addr} (h : H b = none) : fresh H H' b = H' b := by
  unfold fresh
  rw [h]
theorem fresh_mono {H H1 H2 H3 : Hp} (a : ∀ b, H1 b = none → H b = none) (e : ∀ b o, H1 b = none → H2 b = some o → H3 b = some o) : ∀ b o, fresh H1 H2 b = some o → fresh H H3 b = some o := fun b o h => by
  cases h1 : H1 b with
  | none =>
    rw [fresh_at h1] at h
    rw [fresh_at (a b h1)]
    exact e b o h1 h
  | some x =>
    unfold fresh at h
    rw [h1] at h
    cases h
mutual
def Tr.small : Tr → Bool
  | .lst ts => decide (ts.length ≤ 100) && Tr.smallAll ts
  | .tup ts => decide (ts.length ≤ 100) && Tr.smallAll ts
  | _ => true
def Tr.smallAll : List Tr → Bool
  | [] => true
  | t :: ts => Tr.small t && Tr.smallAll ts
end
theorem DnA.len {H : Hp} : ∀ {xs : List V} {ts : List Tr}, DnA H xs ts → xs.length = ts.length
  | _, _, .nil => rfl
  | _, _, .cons _ r => congrArg Nat.succ (DnA.len r)
theorem DnA.at {H : Hp} : ∀ {xs : List V} {ts : List Tr}, DnA H xs ts → ∀ {i : Nat} {x : V}, xs[i]? = some x → ∃ t, ts[i]? = some t ∧ Dn H x t
  | _, _, .cons d r, 0, x, h => ⟨_, rfl, by cases h; exact d⟩
  | _, _, .cons d r, i + 1, x, h => DnA.at r (i := i) h
theorem DnA.snoc {H : Hp} : ∀ {xs : List V} {ts : List Tr} {x : V} {t : Tr}, DnA H xs ts → Dn H x t → DnA H (xs ++ [x]) (ts ++ [t])
  | _, _, _, _, .nil, d => .cons d .nil
  | _, _, _, _, .cons a r, d => .cons a (DnA.snoc r d)
theorem smallAll_at : ∀ {ts : List Tr} {i : Nat} {t : Tr}, Tr.smallAll ts = true → ts[i]? = some t → t.small = true
  | t0 :: ts, 0, t, h, e => by
    cases e
    simp only [Tr.smallAll, Bool.and_eq_true] at h
    exact h.1
  | t0 :: ts, i + 1, t, h, e => by
    simp only [Tr.smallAll, Bool.and_eq_true] at h
    exact smallAll_at (i := i) h.2 e
theorem depthAll_at : ∀ {ts : List Tr} {i : Nat} {t : Tr}, ts[i]? = some t → t.depth ≤ Tr.depthAll ts
  | t0 :: ts, 0, t, e => by
    cases e
    simp only [Tr.depthAll]
    omega
  | t0 :: ts, i + 1, t, e => by
    have := depthAll_at (i := i) (ts := ts) e
    simp only [Tr.depthAll]
    omega
theorem r_then {ta : TE} {k : V → Hp → VK → Prop} {σ : L2.St} {H : Hp} {Q : VK} (h : ta σ H fun x H1 => k x H1 Q) : tThen ta k σ H Q := h
theorem take_snocT {α : Type} {l : List α} {i : Nat} {x : α} (h : l[i]? = some x) : l.take (i + 1) = l.take i ++ [x] := by
  rw [List.take_add_one, h]
  rfl
section
variable {P : Program} {w : World} {K : PySem.W.Frag} {mg : Str → Option Value} {base : Heap}
def spCop (d : Nat) : Sp := fun vs H Q _ => ∃ (x : V) (t : Tr), vs = [x] ∧ Dn H x t ∧ t.small = true ∧ t.depth < d ∧ ∀ y H', Same H H' → Dn (fresh H H') y t → Q y H'
theorem ok_cop {f : Addr} {fd : FuncData} {d j : Nat} (F : Fun K "copied" "copied" s_copied f fd) (m1 : mg "isinstance" = none) (m2 : mg "list" = none) (m3 : mg "tuple" = none) (m4 : mg "dict" = none) (c_copied : CalT P w K mg base d "copied" (spCop d)) (hj : j = d + 1) : FnOk P w K mg base CX0 j f fd ["thing"] (spCop (d + 1)) := by
  subst hj
  refine F.ok sc_copied (fun vs H Q E h => ?_) (fun cdv A outer s H vs Q E hr h => ?_)
  · obtain ⟨x, t, rfl, _⟩ := h
    rfl
  · obtain ⟨x, t, rfl, dn, hsm, hdp, q⟩ := h
    have hu := hu_of hr
    have nd := sc_copied.nd
    have ty := dn.tyX (K := K)
    refine ⟨_, (pss_cons (ps_if (pt_val (pe_callB (call_isiK1 K) (by rfl) (by assumption) (by decide +kernel) (pa_cons (pv 0) (pa_cons (pe_bltn (v := .ty "list") (by rfl) (by assumption) (by decide +kernel) rfl) pa_nil))))
        (pss_one (ps_ret (pe_lc (own := [("part", 1)]) (g := (gName 1)) (tt := tYes) rfl nd (pi_list (pv 0)) (blkOk_by (N := N_copied) (sc := defScope s_copied) (by decide +kernel)) (fun _ _ _ _ _ => (pg_name (i := 1) nd rfl (Or.inl rfl))) (fun _ _ _ _ _ => pts_nil) (fun _ _ _ _ _ => (pe_cc c_copied hr (by omega) (by rfl) (pa_cons (pv 1) pa_nil))))))
        pss_nil)
      (pss_cons (ps_if (pt_val (pe_callB (call_isiK1 K) (by rfl) (by assumption) (by decide +kernel) (pa_cons (pv 0) (pa_cons (pe_bltn (v := .ty "tuple") (by rfl) (by assumption) (by decide +kernel) rfl) pa_nil))))
        (pss_one (ps_ret (pe_tupleOf (by rfl) (by assumption) (pe_lc (own := [("part", 1)]) (g := (gName 1)) (tt := tYes) rfl nd (pi_tup (pv 0)) (blkOk_by (N := N_copied) (sc := defScope s_copied) (by decide +kernel)) (fun _ _ _ _ _ => (pg_name (i := 1) nd rfl (Or.inl rfl))) (fun _ _ _ _ _ => pts_nil) (fun _ _ _ _ _ => (pe_cc c_copied hr (by omega) (by rfl) (pa_cons (pv 1) pa_nil)))))))
        pss_nil)
      (pss_cons (ps_if (pt_val (pe_callB (call_isiK1 K) (by rfl) (by assumption) (by decide +kernel) (pa_cons (pv 0) (pa_cons (pe_bltn (v := .ty "dict") (by rfl) (by assumption) (by decide +kernel) rfl) pa_nil))))
        (pss_one (ps_ret (pe_lock (pe_dc (own := [("key", 2)]) (g := (gName 2)) (tt := tYes) rfl nd (pi_keys (pv 0)) (blkOk_by (N := N_copied) (sc := defScope s_copied) (by decide +kernel)) (fun _ _ _ _ _ => (pg_name (i := 2) nd rfl (Or.inl rfl))) (fun _ _ _ _ _ => pts_nil) (fun _ _ _ _ _ => (pv 2)) (fun _ _ _ _ _ => (pe_cc c_copied hr (by omega) (by rfl) (pa_cons (pe_dget hu (pv 0) (pv 2) (fun _ _ => rfl)) pa_nil)))))))
        pss_nil)
      (pss_one (ps_ret (pv 0)))))), ?_⟩
    cases dn with
    | lst h1 d1 =>
      rename_i a xs ts
      simp only [Tr.ty] at ty
      simp only [Tr.small, Bool.and_eq_true, decide_eq_true_eq] at hsm
      simp only [Tr.depth] at hdp
      have hl := d1.len
      walk_at "rd"
      intro D hD
      refine lc_it (walk_list (xs := xs)) (fun i H' => Same H H' ∧ ∃ ys, H' D = some (.lst ys) ∧ DnA (fresh (upd H D (.lst [])) H') ys (ts.take i)) ⟨same_new hD, [], upd_same, .nil⟩ (fun i H' _ ⟨e, _⟩ => SqL.of (e _ _ h1)) ?_ ?_
      · rintro i v Hc H' hi ⟨e, ys, hb, dy⟩ ⟨rfl, hv⟩
        obtain ⟨t1, ht1, dt⟩ := d1.at hv
        walk_at "rd"
        refine ⟨rfl, ?_⟩
        unfold tYes
        dsimp only
        rw [if_pos rfl]
        walk_at "rd"
        refine ⟨v, t1, rfl, Dn.same e dt, smallAll_at hsm.2 ht1, by have := depthAll_at ht1; omega, fun y H2 e2 dy2 => ?_⟩
        have hyl := dy.len
        refine ⟨_, e2 _ _ hb, ?_, fun b o eo => ?_, ys ++ [y], upd_same, ?_⟩
        · rw [hyl, List.length_take]
          exact Nat.lt_of_le_of_lt (by omega : _ ≤ 100) (by decide)
        · rw [upd_ne (ne_of_none eo hD)]
          exact e2 _ _ (e _ _ eo)
        · have nD : ∀ b : Addr, upd H D (.lst []) b = none → b ≠ D := fun b hb => (ne_of_none (a := D) upd_same hb).symm
          rw [take_snocT ht1]
          refine .snoc (DnA.same (fresh_mono (fun b hb => hb) fun b o hb eo => ?_) dy) (Dn.same (fresh_mono (fun b hb => ?_) fun b o hb2 eo => ?_) dy2)
          · rw [upd_ne (nD b hb)]; exact e2 _ _ eo
          · have nb : b ≠ D := (ne_of_none ‹H' D = _› hb).symm
            rw [upd_ne nb]
            exact none_same e hb
          · have nb : b ≠ D := (ne_of_none ‹H' D = _› hb2).symm
            rw [upd_ne nb]; exact eo
      · rintro H1 ⟨e, ys, hb, dy⟩
        rw [hl, List.take_length] at dy
        refine q _ _ e (.lst ((fresh_at hD).trans hb) (DnA.same (fresh_mono (fun b hb => none_same (same_new hD) hb) fun b o _ eo => eo) dy))
    | tup h1 d1 =>
      rename_i a xs ts
      simp only [Tr.ty] at ty
      simp only [Tr.small, Bool.and_eq_true, decide_eq_true_eq] at hsm
      simp only [Tr.depth] at hdp
      have hl := d1.len
      walk_at "rd"
      refine r_then ?_
      walk_at "rd"
      intro D hD
      refine lc_it (walk_tup (xs := xs)) (fun i H' => Same H H' ∧ ∃ ys, H' D = some (.lst ys) ∧ DnA (fresh (upd H D (.lst [])) H') ys (ts.take i)) ⟨same_new hD, [], upd_same, .nil⟩ (fun i H' _ ⟨e, _⟩ => SqT.of (e _ _ h1)) ?_ ?_
      · rintro i v Hc H' hi ⟨e, ys, hb, dy⟩ ⟨rfl, hv⟩
        obtain ⟨t1, ht1, dt⟩ := d1.at hv
        walk_at "rd"
        refine ⟨rfl, ?_⟩
        unfold tYes
        dsimp only
        rw [if_pos rfl]
        walk_at "rd"
        refine ⟨v, t1, rfl, Dn.same e dt, smallAll_at hsm.2 ht1, by have := depthAll_at ht1; omega, fun y H2 e2 dy2 => ?_⟩
        have hyl := dy.len
        refine ⟨_, e2 _ _ hb, ?_, fun b o eo => ?_, ys ++ [y], upd_same, ?_⟩
        · rw [hyl, List.length_take]
          exact Nat.lt_of_le_of_lt (by omega : _ ≤ 100) (by decide)
        · rw [upd_ne (ne_of_none eo hD)]
          exact e2 _ _ (e _ _ eo)
        · have nD : ∀ b : Addr, upd H D (.lst []) b = none → b ≠ D := fun b hb => (ne_of_none (a := D) upd_same hb).symm
          rw [take_snocT ht1]
          refine .snoc (DnA.same (fresh_mono (fun b hb => hb) fun b o hb eo => ?_) dy) (Dn.same (fresh_mono (fun b hb => ?_) fun b o hb2 eo => ?_) dy2)
          · rw [upd_ne (nD b hb)]; exact e2 _ _ eo
          · have nb : b ≠ D := (ne_of_none ‹H' D = _› hb).symm
            rw [upd_ne nb]
            exact none_same e hb
          · have nb : b ≠ D := (ne_of_none ‹H' D = _› hb2).symm
            rw [upd_ne nb]; exact eo
      · rintro H1 ⟨e, ys, hb, dy⟩
        rw [hl, List.take_length] at dy
        refine .inl ⟨D, ys, rfl, SqL.of hb, fun p1 hp1 => ?_⟩
        refine q _ _ (e.trans (same_new hp1)) (.tup ((fresh_at (none_same e hp1)).trans upd_same) (DnA.same (fresh_mono (fun b hb => none_same (same_new hD) hb) fun b o _ eo => upd_old hp1 eo) dy))
    | emp h1 =>
      simp only [Tr.ty] at ty
      walk_at "rd"
      refine ⟨_, _, h1, True.intro, fun od => ?_⟩
      unfold tDc iKeys
      refine r_var rfl ?_
      refine ⟨_, od, rfl, .inl ⟨[], upd_same, fun D hD => ?_⟩⟩
      rename_i a
      have nD : a ≠ D := fun z => by rw [← z, upd_same] at hD; cases hD
      have hDH : H D = none := by rw [upd_ne nD.symm] at hD; exact hD
      refine ⟨fun i m G => i = 0 ∧ m = 0 ∧ G = upd (upd H a (.frz od (.dK []))) D (.dK []), ⟨0, rfl, rfl, rfl⟩, ?_⟩
      rintro i m G ⟨rfl, rfl, rfl⟩
      refine .inl ⟨?_, (upd_ne nD).trans upd_same, ?_⟩
      · exact ⟨(upd_ne nD).trans upd_same, Nat.le_refl _⟩
      · refine q _ _ (fun b o e => ?_) (.emp ((fresh_at hDH).trans ((upd_ne nD.symm).trans upd_same)))
        by_cases eb : b = a
        · rw [eb] at e ⊢; rw [h1] at e; rw [upd_same]; exact e
        · rw [upd_ne eb, upd_ne (ne_of_none e hDH), upd_ne eb]; exact e
    | _ => simp only [Tr.ty] at ty; walk_at "rd"; exact q _ _ (Same.refl _) (by constructor)
end
end Th
namespace Th
open PySem PySem.Spec PyProof.Rows L2
local macro_rules | `(tactic| walk_at "lk") => `(tactic| first
  | assumption
  | exact upd_same
  | (refine upd_old (by assumption) ?_; walk_at "lk")
  | (refine upd_diff (by assumption) ?_; walk_at "lk")
  | (refine upd_diff (Ne.symm (by assumption)) ?_; walk_at "lk"))
local macro_rules | `(tactic| walk_at "cnd") => `(tactic| first
  | omega
  | (refine ⟨by omega, by omega⟩)
  | (refine ⟨by omega, by omega, by omega⟩)
  | (refine .inl ⟨by omega, by omega⟩)
  | (refine .inr ⟨by omega, by omega⟩)
  | (exact (show CPow _ _ from ⟨by decide, by decide, by omega⟩))
  | decide +kernel
  | (unfold CMulW; decide +kernel)
  | (exact wide_div (b := 64) (by omega) (by omega) (by decide) (by decide)))
local macro_rules | `(tactic| walk_at "rd1") => `(tactic| first
  | (with_reducible refine r_seq ?_)
  | (with_reducible refine r_asg ?_)
  | (with_reducible refine r_ret ?_)
  | (with_reducible refine r_if ?_)
  | (with_reducible refine r_gname ?_)
  | ((with_reducible refine' r_var ?hv ?_); (case hv => exact rfl))
  | (with_reducible refine r_c ?_)
  | (with_reducible refine r_op ?_)
  | (with_reducible refine r_I0 ?_)
  | ((with_reducible refine r_I ?hc ?_); (case hc => walk_at "cnd"))
  | (with_reducible refine r_test ?_)
  | (with_reducible refine r_tB ?_)
  | (with_reducible refine r_bl ?_)
  | (with_reducible refine r_not ?_)
  | (with_reducible refine r_and ?_)
  | (with_reducible refine r_or ?_)
  | (with_reducible refine r_ifE ?_)
  | (with_reducible refine r_notV ?_)
  | (with_reducible refine r_andV ?_)
  | (with_reducible refine r_orV ?_)
  | (with_reducible refine r_chain ?_)
  | (with_reducible refine r_cb ?_)
  | (with_reducible refine r_call ?_)
  | (with_reducible refine r_callN ?_)
  | (with_reducible refine r_nil ?_)
  | (with_reducible refine r_cons ?_)
  | ((with_reducible refine r_lst ?_))
  | ((with_reducible refine r_tup ?_))
  | ((with_reducible refine r_new ?_ ?_); (exact Nat.le_of_ble_eq_true rfl); (intro p hp))
  | (with_reducible refine r_rInt1 ?_)
  | (with_reducible refine r_rIntB ?_)
  | (with_reducible refine r_rAbs ?_)
  | (with_reducible refine r_rMin2 ?_)
  | (with_reducible refine r_rMax2 ?_)
  | ((with_reducible refine r_rLenZ ?hz ?_); (case hz => first | assumption | exact Nat.le_of_ble_eq_true rfl | (refine Nat.le_trans ?_ (by decide : 100000 ≤ sizeLine); omega)))
  | ((with_reducible refine r_addZ ?hz ?_); (case hz => (refine Nat.le_trans ?_ (by decide : 100000 ≤ sizeLine); first | omega | (simp only [Str.length] at *; simp; omega))))
  | ((with_reducible refine r_mulZ ?hz ?h0 ?h1 ?_); (case hz => first | omega | exact Nat.le_of_ble_eq_true rfl); (case h0 => omega); (case h1 => omega))
  | ((with_reducible refine' r_rLenQ ?h1 ?_); (case h1 => first | (exact .inl (by assumption)) | (exact .inr (by assumption)) | (exact .inl (SqL.of (by walk_at "lk"))) | (exact .inr (SqT.of (by walk_at "lk")))))
  | ((with_reducible refine r_eq ?hs ?_); (case hs => exact rfl))
  | ((with_reducible refine r_ne ?hs ?_); (case hs => exact rfl))
  | (with_reducible refine r_inC ?_)
  | ((with_reducible refine' r_cat ?h1 ?h2 ?h3 ?_); (case h1 => walk_at "lk"); (case h2 => walk_at "lk"); (case h3 => exact Nat.le_of_ble_eq_true rfl); (intro p hp))
  | ((with_reducible refine' r_rep ?h1 ?h2 ?h3 ?h4 ?_); (case h1 => walk_at "lk"); (case h2 => omega); (case h3 => omega); (case h4 => exact Nat.le_of_ble_eq_true rfl); (intro p hp))
  | ((with_reducible refine' r_append ?h1 ?h2 ?_); (case h1 => walk_at "lk"); (case h2 => first | exact (show _ + 1 ≤ sizeLine from Nat.le_of_ble_eq_true rfl) | exact Nat.lt_of_le_of_lt (by omega : _ ≤ 100000) (by decide)))
  | (with_reducible refine r_bm ?_)
  | ((with_reducible refine' r_tyL ?h1 ?_); (case h1 => walk_at "lk"))
  | ((with_reducible refine' r_ixL ?h1 ?h2 ?_); (case h1 => first | assumption | exact SqL.of (by walk_at "lk")); (case h2 => exact rfl))
  | ((with_reducible refine' r_ixT ?h1 ?h2 ?_); (case h1 => first | assumption | exact SqT.of (by walk_at "lk")); (case h2 => exact rfl))
  | (with_reducible refine r_gsub ?_)
  | ((with_reducible refine' r_setL ?h1 ?h2 ?_); (case h1 => walk_at "lk"); (case h2 => exact rfl))
  | (with_reducible refine r_un ?_)
  | (with_reducible refine r_neg ?_)
  | (with_reducible refine r_iteT ?_)
  | (with_reducible refine r_iteNT ?_)
  | (with_reducible refine r_iteNF ?_)
  | (with_reducible refine r_iteF ?_)
  | (with_reducible refine r_next ?_)
  | (with_reducible refine r_drop ?_)
  | (with_reducible refine r_cont ?_)
  | (with_reducible refine r_brk ?_))
local macro_rules | `(tactic| walk_at "ty") => `(tactic| first
  | assumption
  | exact .base (.int _)
  | exact .base (.str _)
  | exact .base (.bl _)
  | exact .base .non
  | exact .byt _
  | exact .base (.lst (by walk_at "lk"))
  | exact .base (.tup (by walk_at "lk")))
local macro_rules | `(tactic| walk_at "rd2") => `(tactic| first
  | walk_at "rd1"
  | ((with_reducible refine' r_isi true ?ht ?hk ?_); (case ht => walk_at "ty"); (case hk => first | assumption | decide +kernel))
  | ((with_reducible refine' r_isi false ?ht ?hk ?_); (case ht => walk_at "ty"); (case hk => first | assumption | decide +kernel))
  | ((with_reducible refine' r_isiT2 true true ?hT ?ht ?hk ?hk2 ?_); (case hT => walk_at "lk"); (case ht => walk_at "ty"); (case hk => decide +kernel); (case hk2 => decide +kernel))
  | ((with_reducible refine' r_isiT2 true false ?hT ?ht ?hk ?hk2 ?_); (case hT => walk_at "lk"); (case ht => walk_at "ty"); (case hk => decide +kernel); (case hk2 => decide +kernel))
  | ((with_reducible refine' r_isiT2 false true ?hT ?ht ?hk ?hk2 ?_); (case hT => walk_at "lk"); (case ht => walk_at "ty"); (case hk => decide +kernel); (case hk2 => decide +kernel))
  | ((with_reducible refine' r_isiT2 false false ?hT ?ht ?hk ?hk2 ?_); (case hT => walk_at "lk"); (case ht => walk_at "ty"); (case hk => decide +kernel); (case hk2 => decide +kernel))
  | (with_reducible refine r_iteNT ?_)
  | ((show (if (!true) = true then _ else _)); refine r_iteNT ?_)
  | (with_reducible refine r_r1 ?_)
  | (with_reducible refine r_maks ?_)
  | (with_reducible refine r_sfld ?_)
  | ((with_reducible refine' r_sfldE ?h1 ?h2 ?h3 ?h4 ?_); (case h1 => walk_at "lk"); (case h2 => assumption); (case h3 => assumption); (case h4 => exact (show _ + 1 ≤ 1000 from Nat.le_of_ble_eq_true rfl)))
  | (with_reducible refine r_fld ?_)
  | (with_reducible refine r_join ?_)
  | (with_reducible refine r_jcons ?_)
  | (with_reducible refine r_jnil ?_)
  | ((with_reducible refine r_rLenY ?hz ?_); (case hz => first | assumption | (refine Nat.le_trans ?_ (by decide : 100000 ≤ sizeLine); omega)))
  | (with_reducible refine r_par ?_)
  | (with_reducible refine r_pair ?_)
  | (with_reducible refine r_par3 ?_)
  | (with_reducible refine r_trip ?_)
  | ((with_reducible refine' r_gtup ?h1 ?h2 ?_); (case h1 => first | assumption | exact SqT.of (by walk_at "lk")); (case h2 => exact rfl))
  | (with_reducible refine r_gcons ?_)
  | (with_reducible refine r_gnil ?_)
  | ((with_reducible refine' r_slL ?h1 ?_); (case h1 => first | assumption | exact SqL.of (by walk_at "lk")); (intro p hp))
  | (with_reducible refine r_iTup ?_)
  | ((with_reducible refine' r_tupE ?h1 ?_); (case h1 => first | assumption | exact SqT.of (by walk_at "lk")))
  | (with_reducible refine r_m1 ?_)
  | (with_reducible refine r_isZ ?_)
  | (with_reducible refine r_sl ?_)
  | (with_reducible refine r_noPart ?_)
  | (with_reducible refine r_part ?_)
  | (with_reducible refine r_partE ?_)
  | ((with_reducible refine r_slS ?hz ?_); (case hz => first | assumption | (refine Nat.le_trans ?_ (by decide : 100000 ≤ sizeLine); omega)))
  | ((with_reducible refine' r_inT ?h1 ?h2 ?h3 ?_); (case h1 => first | assumption | (exact SqT.of (by walk_at "lk"))); (case h2 => exact rfl); (case h3 => exact rfl))
  | ((with_reducible refine' r_inL ?h1 ?h2 ?h3 ?_); (case h1 => first | assumption | (exact SqL.of (by walk_at "lk"))); (case h2 => exact rfl); (case h3 => exact rfl))
  | (with_reducible refine r_lc ?_)
  | (with_reducible refine r_for ?_)
  | (with_reducible refine r_iStr ?_)
  | (with_reducible refine r_strE ?_)
  | (with_reducible refine r_iList ?_)
  | ((with_reducible refine' r_listE ?h1 ?_); (case h1 => first | assumption | exact SqL.of (by walk_at "lk")))
  | (with_reducible refine r_iRng1 ?_)
  | ((with_reducible refine' r_rngE ?h0 ?h1 ?_); (case h0 => first | omega | (split <;> omega)); (case h1 => first | omega | (split <;> omega))))
local macro_rules | `(tactic| walk_at "rd") => `(tactic| (repeat walk_at "rd2"))
local macro_rules | `(tactic| walk_at "st") => `(tactic| (repeat (first
  | (with_reducible refine r_gname ?_)
  | (with_reducible refine r_next ?_)
  | (with_reducible refine r_seq ?_)
  | (with_reducible refine r_asg ?_)
  | (with_reducible refine r_ret ?_)
  | (with_reducible refine r_for ?_)
  | (with_reducible refine r_iRng1 ?_)
  | (with_reducible refine r_iList ?_)
  | (with_reducible refine r_cons ?_)
  | (with_reducible refine r_par ?_)
  | (with_reducible refine r_par3 ?_))))
/-! ### what an error keeps -/
def TOk (t : Tr) : Prop := t.ok = true ∧ t.small = true ∧ t.depth < 6 ∧ t.shown.length ≤ sizeLine
def spIX (C : Addr) (fld : Str) : Sp := fun vs H Q _ => ∃ (a : Addr) (x : V) (t : Tr), vs = [.ref a, x] ∧ H a = some (exo a C none) ∧ Dn H x t ∧ TOk t ∧
  ∀ y dx H', (∀ b o, b ≠ a → H b = some o → H' b = some o) → H dx = none → H' a = some (exo a C (some dx)) → H' dx = some (exd dx [(fld, y)]) → (∃ G : Hp, Dn G y t ∧ ∀ b o, G b = some o → b ≠ a ∧ b ≠ dx ∧ H' b = some o) → Q .non H'
theorem r_ostG {K : PySem.W.Frag} {f : Str} {to te : TE} {D : Ends} {σ : L2.St} {H : Hp} (h : te σ H fun y H1 => to σ H1 fun x H2 => ∃ a C fI : Addr, x = .ref a ∧ ExG K C fI ∧ PySem.W.findIn K (.ref C) f = some none ∧ ((H2 a = some (exo a C none) ∧ ∀ dx, H2 dx = none → dx ≠ a → D.nx σ (upd (upd H2 dx (exd dx [(f, y)])) a (exo a C (some dx)))) ∨
  ∃ (dx : Addr) (fs : List (Str × V)), H2 a = some (exo a C (some dx)) ∧ H2 dx = some (exd dx fs) ∧ fs.length ≤ 900 ∧ D.nx σ (upd H2 dx (exd dx ((f, y) :: fs))))) : tOstG K f to te D σ H := h
def Err (C : Addr) (fld : Str) (t : Tr) (H : Hp) (E : XK) : Prop := ∀ y dx H', Same H H' → H' dx = some (.xd [(fld, y)]) → Dn H' y t → E (.ref C) (some dx) H'
theorem Err.same {C : Addr} {fld : Str} {t : Tr} {H H1 : Hp} {E : XK} (e : Same H H1) (h : Err C fld t H E) : Err C fld t H1 E := fun y dx H' e' => h y dx H' (e.trans e')
theorem mk_err {C : Addr} {fld : Str} {x : V} {t : Tr} {H : Hp} {W : XK} (hx : Dn H x t) (ht : TOk t) (q : Err C fld t H W) :
    ∀ a, H a = none → spIX C fld (.ref a :: ([x] ++ [])) (upd H a (exo a C none)) (fun v H2 => v = .non ∧ ∃ (d : Addr) (fs : List (Str × V)), H2 a = some (exo a C (some d)) ∧ H2 d = some (exd d fs) ∧ H d = none ∧ W (.ref C) (some d) (upd (del H2 a) d (.xd fs))) (fun _ _ _ => False) := by
  refine fun a ha => ⟨a, x, t, rfl, upd_same, Dn.same (fun b o e => upd_old ha e) hx, ht, fun y dx H2 fr hdx h1 h2 hc => ?_⟩
  obtain ⟨G, dG, hG⟩ := hc
  have nda : dx ≠ a := fun z => by rw [z, upd_same] at hdx; cases hdx
  have hHd : H dx = none := by rw [upd_ne nda] at hdx; exact hdx
  refine ⟨rfl, dx, _, h1, h2, hHd, q y dx _ (fun b o e => ?_) upd_same (Dn.same (fun b o e => ?_) dG)⟩
  · rw [upd_ne (ne_of_none e hHd), del_ne (ne_of_none e ha)]
    exact fr b o (ne_of_none e ha) (upd_old ha e)
  · obtain ⟨n1, n2, h⟩ := hG b o e
    rw [upd_ne n2, del_ne n1]
    exact h
section
variable {P : Program} {w : World} {K : PySem.W.Frag} {mg : Str → Option Value} {base : Heap}
structure Rai (P : Program) (w : World) (K : PySem.W.Frag) (mg : Str → Option Value) (base : Heap) (x : Str) (C : Addr) (fld : Str) : Prop where
  ex : ∃ (fI : Addr) (fd : FuncData) (ps : List Str), ExG K C fI ∧ PySem.W.typeIn K (.ref C) = some (.type "type") ∧ FnOk P w K mg base CX0 7 fI fd ps (spIX C fld) ∧ Binds K fd ps [] ∧ mg x = some (.ref C)
theorem ok_iNoBlob {fI C : Addr} {fd : FuncData} {k : Nat} (F : Fun K "__init__" "NoBlob.__init__" s_NoBlob___init__ fI fd) (T : ExG K C fI) (hno : PySem.W.findIn K (.ref C) "numbers" = some none) (c_copied : CalT P w K mg base 6 "copied" (spCop 6)) : FnOk P w K mg base CX0 (k + 7) fI fd ["self", "numbers"] (spIX C "numbers") := by
  refine F.ok sc_NoBlob___init__ (fun vs H Q E h => ?_) (fun cdv A outer s H vs Q E hr h => ?_)
  · obtain ⟨a, x, t, rfl, _⟩ := h
    rfl
  · obtain ⟨a, x, t, rfl, ha, dn, ht, q⟩ := h
    have hu := hu_of hr
    have nd := sc_NoBlob___init__.nd
    refine ⟨_, (pss_one (ps_ostG (pv 0) (pe_cc c_copied hr (by omega) (by rfl) (pa_cons (pv 1) pa_nil)) rfl)), ?_⟩
    refine r_ostG ?_
    walk_at "rd"
    refine ⟨x, t, rfl, dn, ht.2.1, ht.2.2.1, fun y H1 e1 dy => ?_⟩
    walk_at "rd"
    have ha1 := e1 _ _ ha
    refine ⟨a, C, fI, rfl, T, hno, .inl ⟨ha1, fun dx hdx ne => ?_⟩⟩
    refine q y dx _ (fun b o nb eb => by rw [upd_ne nb, upd_ne (ne_of_none (e1 _ _ eb) hdx)]; exact e1 _ _ eb) (none_same e1 hdx) upd_same (by rw [upd_ne ne, upd_same]) ⟨_, dy, fun b o eb => ?_⟩
    have h1 := fresh_sub b o eb
    have nb : b ≠ a := fun z => by
      unfold fresh at eb
      rw [z, ha] at eb
      cases eb
    have nd' : b ≠ dx := ne_of_none h1 hdx
    exact ⟨nb, nd', by rw [upd_ne nb, upd_ne nd']; exact h1⟩
theorem ok_iNoData {fI C : Addr} {fd : FuncData} {k : Nat} (F : Fun K "__init__" "NoData.__init__" s_NoData___init__ fI fd) (T : ExG K C fI) (hno : PySem.W.findIn K (.ref C) "thing" = some none) (c_copied : CalT P w K mg base 6 "copied" (spCop 6)) : FnOk P w K mg base CX0 (k + 7) fI fd ["self", "thing"] (spIX C "thing") := by
  refine F.ok sc_NoData___init__ (fun vs H Q E h => ?_) (fun cdv A outer s H vs Q E hr h => ?_)
  · obtain ⟨a, x, t, rfl, _⟩ := h
    rfl
  · obtain ⟨a, x, t, rfl, ha, dn, ht, q⟩ := h
    have hu := hu_of hr
    have nd := sc_NoData___init__.nd
    refine ⟨_, (pss_one (ps_ostG (pv 0) (pe_cc c_copied hr (by omega) (by rfl) (pa_cons (pv 1) pa_nil)) rfl)), ?_⟩
    refine r_ostG ?_
    walk_at "rd"
    refine ⟨x, t, rfl, dn, ht.2.1, ht.2.2.1, fun y H1 e1 dy => ?_⟩
    walk_at "rd"
    have ha1 := e1 _ _ ha
    refine ⟨a, C, fI, rfl, T, hno, .inl ⟨ha1, fun dx hdx ne => ?_⟩⟩
    refine q y dx _ (fun b o nb eb => by rw [upd_ne nb, upd_ne (ne_of_none (e1 _ _ eb) hdx)]; exact e1 _ _ eb) (none_same e1 hdx) upd_same (by rw [upd_ne ne, upd_same]) ⟨_, dy, fun b o eb => ?_⟩
    have h1 := fresh_sub b o eb
    have nb : b ≠ a := fun z => by
      unfold fresh at eb
      rw [z, ha] at eb
      cases eb
    have nd' : b ≠ dx := ne_of_none h1 hdx
    exact ⟨nb, nd', by rw [upd_ne nb, upd_ne nd']; exact h1⟩
theorem ok_iNoName {fI C : Addr} {fd : FuncData} {k : Nat} (F : Fun K "__init__" "NoName.__init__" s_NoName___init__ fI fd) (T : ExG K C fI) (hno : PySem.W.findIn K (.ref C) "name" = some none) (c_copied : CalT P w K mg base 6 "copied" (spCop 6)) : FnOk P w K mg base CX0 (k + 7) fI fd ["self", "name"] (spIX C "name") := by
  refine F.ok sc_NoName___init__ (fun vs H Q E h => ?_) (fun cdv A outer s H vs Q E hr h => ?_)
  · obtain ⟨a, x, t, rfl, _⟩ := h
    rfl
  · obtain ⟨a, x, t, rfl, ha, dn, ht, q⟩ := h
    have hu := hu_of hr
    have nd := sc_NoName___init__.nd
    refine ⟨_, (pss_one (ps_ostG (pv 0) (pe_cc c_copied hr (by omega) (by rfl) (pa_cons (pv 1) pa_nil)) rfl)), ?_⟩
    refine r_ostG ?_
    walk_at "rd"
    refine ⟨x, t, rfl, dn, ht.2.1, ht.2.2.1, fun y H1 e1 dy => ?_⟩
    walk_at "rd"
    have ha1 := e1 _ _ ha
    refine ⟨a, C, fI, rfl, T, hno, .inl ⟨ha1, fun dx hdx ne => ?_⟩⟩
    refine q y dx _ (fun b o nb eb => by rw [upd_ne nb, upd_ne (ne_of_none (e1 _ _ eb) hdx)]; exact e1 _ _ eb) (none_same e1 hdx) upd_same (by rw [upd_ne ne, upd_same]) ⟨_, dy, fun b o eb => ?_⟩
    have h1 := fresh_sub b o eb
    have nb : b ≠ a := fun z => by
      unfold fresh at eb
      rw [z, ha] at eb
      cases eb
    have nd' : b ≠ dx := ne_of_none h1 hdx
    exact ⟨nb, nd', by rw [upd_ne nb, upd_ne nd']; exact h1⟩
theorem ok_iNoMode {fI C : Addr} {fd : FuncData} {k : Nat} (F : Fun K "__init__" "NoMode.__init__" s_NoMode___init__ fI fd) (T : ExG K C fI) (hno : PySem.W.findIn K (.ref C) "mode" = some none) (c_copied : CalT P w K mg base 6 "copied" (spCop 6)) : FnOk P w K mg base CX0 (k + 7) fI fd ["self", "mode"] (spIX C "mode") := by
  refine F.ok sc_NoMode___init__ (fun vs H Q E h => ?_) (fun cdv A outer s H vs Q E hr h => ?_)
  · obtain ⟨a, x, t, rfl, _⟩ := h
    rfl
  · obtain ⟨a, x, t, rfl, ha, dn, ht, q⟩ := h
    have hu := hu_of hr
    have nd := sc_NoMode___init__.nd
    refine ⟨_, (pss_one (ps_ostG (pv 0) (pe_cc c_copied hr (by omega) (by rfl) (pa_cons (pv 1) pa_nil)) rfl)), ?_⟩
    refine r_ostG ?_
    walk_at "rd"
    refine ⟨x, t, rfl, dn, ht.2.1, ht.2.2.1, fun y H1 e1 dy => ?_⟩
    walk_at "rd"
    have ha1 := e1 _ _ ha
    refine ⟨a, C, fI, rfl, T, hno, .inl ⟨ha1, fun dx hdx ne => ?_⟩⟩
    refine q y dx _ (fun b o nb eb => by rw [upd_ne nb, upd_ne (ne_of_none (e1 _ _ eb) hdx)]; exact e1 _ _ eb) (none_same e1 hdx) upd_same (by rw [upd_ne ne, upd_same]) ⟨_, dy, fun b o eb => ?_⟩
    have h1 := fresh_sub b o eb
    have nb : b ≠ a := fun z => by
      unfold fresh at eb
      rw [z, ha] at eb
      cases eb
    have nd' : b ≠ dx := ne_of_none h1 hdx
    exact ⟨nb, nd', by rw [upd_ne nb, upd_ne nd']; exact h1⟩
theorem ok_iNoSize {fI C : Addr} {fd : FuncData} {k : Nat} (F : Fun K "__init__" "NoSize.__init__" s_NoSize___init__ fI fd) (T : ExG K C fI) (hno : PySem.W.findIn K (.ref C) "size" = some none) (c_copied : CalT P w K mg base 6 "copied" (spCop 6)) : FnOk P w K mg base CX0 (k + 7) fI fd ["self", "size"] (spIX C "size") := by
  refine F.ok sc_NoSize___init__ (fun vs H Q E h => ?_) (fun cdv A outer s H vs Q E hr h => ?_)
  · obtain ⟨a, x, t, rfl, _⟩ := h
    rfl
  · obtain ⟨a, x, t, rfl, ha, dn, ht, q⟩ := h
    have hu := hu_of hr
    have nd := sc_NoSize___init__.nd
    refine ⟨_, (pss_one (ps_ostG (pv 0) (pe_cc c_copied hr (by omega) (by rfl) (pa_cons (pv 1) pa_nil)) rfl)), ?_⟩
    refine r_ostG ?_
    walk_at "rd"
    refine ⟨x, t, rfl, dn, ht.2.1, ht.2.2.1, fun y H1 e1 dy => ?_⟩
    walk_at "rd"
    have ha1 := e1 _ _ ha
    refine ⟨a, C, fI, rfl, T, hno, .inl ⟨ha1, fun dx hdx ne => ?_⟩⟩
    refine q y dx _ (fun b o nb eb => by rw [upd_ne nb, upd_ne (ne_of_none (e1 _ _ eb) hdx)]; exact e1 _ _ eb) (none_same e1 hdx) upd_same (by rw [upd_ne ne, upd_same]) ⟨_, dy, fun b o eb => ?_⟩
    have h1 := fresh_sub b o eb
    have nb : b ≠ a := fun z => by
      unfold fresh at eb
      rw [z, ha] at eb
      cases eb
    have nd' : b ≠ dx := ne_of_none h1 hdx
    exact ⟨nb, nd', by rw [upd_ne nb, upd_ne nd']; exact h1⟩
theorem ok_iNoPieces {fI C : Addr} {fd : FuncData} {k : Nat} (F : Fun K "__init__" "NoPieces.__init__" s_NoPieces___init__ fI fd) (T : ExG K C fI) (hno : PySem.W.findIn K (.ref C) "pieces" = some none) (c_copied : CalT P w K mg base 6 "copied" (spCop 6)) : FnOk P w K mg base CX0 (k + 7) fI fd ["self", "pieces"] (spIX C "pieces") := by
  refine F.ok sc_NoPieces___init__ (fun vs H Q E h => ?_) (fun cdv A outer s H vs Q E hr h => ?_)
  · obtain ⟨a, x, t, rfl, _⟩ := h
    rfl
  · obtain ⟨a, x, t, rfl, ha, dn, ht, q⟩ := h
    have hu := hu_of hr
    have nd := sc_NoPieces___init__.nd
    refine ⟨_, (pss_one (ps_ostG (pv 0) (pe_cc c_copied hr (by omega) (by rfl) (pa_cons (pv 1) pa_nil)) rfl)), ?_⟩
    refine r_ostG ?_
    walk_at "rd"
    refine ⟨x, t, rfl, dn, ht.2.1, ht.2.2.1, fun y H1 e1 dy => ?_⟩
    walk_at "rd"
    have ha1 := e1 _ _ ha
    refine ⟨a, C, fI, rfl, T, hno, .inl ⟨ha1, fun dx hdx ne => ?_⟩⟩
    refine q y dx _ (fun b o nb eb => by rw [upd_ne nb, upd_ne (ne_of_none (e1 _ _ eb) hdx)]; exact e1 _ _ eb) (none_same e1 hdx) upd_same (by rw [upd_ne ne, upd_same]) ⟨_, dy, fun b o eb => ?_⟩
    have h1 := fresh_sub b o eb
    have nb : b ≠ a := fun z => by
      unfold fresh at eb
      rw [z, ha] at eb
      cases eb
    have nd' : b ≠ dx := ne_of_none h1 hdx
    exact ⟨nb, nd', by rw [upd_ne nb, upd_ne nd']; exact h1⟩
theorem ok_iNoTime {fI C : Addr} {fd : FuncData} {k : Nat} (F : Fun K "__init__" "NoTime.__init__" s_NoTime___init__ fI fd) (T : ExG K C fI) (hno : PySem.W.findIn K (.ref C) "time" = some none) (c_copied : CalT P w K mg base 6 "copied" (spCop 6)) : FnOk P w K mg base CX0 (k + 7) fI fd ["self", "time"] (spIX C "time") := by
  refine F.ok sc_NoTime___init__ (fun vs H Q E h => ?_) (fun cdv A outer s H vs Q E hr h => ?_)
  · obtain ⟨a, x, t, rfl, _⟩ := h
    rfl
  · obtain ⟨a, x, t, rfl, ha, dn, ht, q⟩ := h
    have hu := hu_of hr
    have nd := sc_NoTime___init__.nd
    refine ⟨_, (pss_one (ps_ostG (pv 0) (pe_cc c_copied hr (by omega) (by rfl) (pa_cons (pv 1) pa_nil)) rfl)), ?_⟩
    refine r_ostG ?_
    walk_at "rd"
    refine ⟨x, t, rfl, dn, ht.2.1, ht.2.2.1, fun y H1 e1 dy => ?_⟩
    walk_at "rd"
    have ha1 := e1 _ _ ha
    refine ⟨a, C, fI, rfl, T, hno, .inl ⟨ha1, fun dx hdx ne => ?_⟩⟩
    refine q y dx _ (fun b o nb eb => by rw [upd_ne nb, upd_ne (ne_of_none (e1 _ _ eb) hdx)]; exact e1 _ _ eb) (none_same e1 hdx) upd_same (by rw [upd_ne ne, upd_same]) ⟨_, dy, fun b o eb => ?_⟩
    have h1 := fresh_sub b o eb
    have nb : b ≠ a := fun z => by
      unfold fresh at eb
      rw [z, ha] at eb
      cases eb
    have nd' : b ≠ dx := ne_of_none h1 hdx
    exact ⟨nb, nd', by rw [upd_ne nb, upd_ne nd']; exact h1⟩
def NC : Str := "abcdefghijklmnopqrstuvwxyz0123456789._-/"
def nameB (z : Str) : Bool := decide (1 ≤ z.length) && decide (z.length ≤ 250) && z.cps.toList.all (fun c => decide (c ∈ NC.cps.toList))
def nameV : V → Bool
  | .str z => nameB z
  | _ => false
/-- a text of up to 5000 signs, or a value of another kind -/
def AnyS (K : PySem.W.Frag) (H : Hp) (x : V) : Prop := (∃ z : Str, x = .str z ∧ z.length ≤ 5000) ∨ (nameV x = false ∧ ∃ T, TyX K H x (.type T) ∧ kitB T "str" = some false)
theorem AnyS.same {H H' : Hp} {x : V} (e : Same H H') (h : AnyS K H x) : AnyS K H' x := by
  rcases h with h | ⟨h, T, h1, h2⟩
  · exact .inl h
  · exact .inr ⟨h, T, same_tyB e h1, h2⟩
def spName (K : PySem.W.Frag) : Sp := fun vs H Q _ => ∃ x, vs = [x] ∧ AnyS K H x ∧ ∀ H', Same H H' → Q (.bl (nameV x)) H'
theorem sp_name {x : V} {H : Hp} {Q : VK} {E : XK} (ha : AnyS K H x) (k : ∀ H', Same H H' → Q (.bl (nameV x)) H') : spName K ([x] ++ []) H Q E := ⟨x, rfl, ha, k⟩
theorem ok_name {f : Addr} {fd : FuncData} {k : Nat} {t1 t2 : Tok} (F : Fun K "is_name" "is_name" s_is_name f fd) (m1 : mg "isinstance" = none) (m2 : mg "str" = none) (m3 : mg "len" = none) (m4 : mg "all" = none)
    (m_MOST : mg "MOST_CHARACTERS" = some (.int 250 t1)) (m_NC : mg "NAME_CHARACTERS" = some (.str NC t2)) : FnOk P w K mg base CX0 (k + 2) f fd ["thing"] (spName K) := by
  refine F.ok sc_is_name (fun vs H Q E h => ?_) (fun cdv A outer s H vs Q E hr h => ?_)
  · obtain ⟨x, rfl, _⟩ := h
    rfl
  · obtain ⟨x, rfl, hx, q⟩ := h
    have hu := hu_of hr
    have nd := sc_is_name.nd
    refine ⟨_, (pss_cons (ps_if (PW.pt (pw_or (pt_not (pt_val (pe_callB (call_isiK1 K) (by rfl) (by assumption) (by decide +kernel) (pa_cons (pv 0) (pa_cons (pe_bltn (v := .ty "str") (by rfl) (by assumption) (by decide +kernel) rfl) pa_nil))))) (pw_or1 (pt_not (pt_chain op_le op_le pe_int (pe_callB call_rLenZ (by rfl) (by assumption) (by decide +kernel) (pa_cons (pv 0) pa_nil)) (pe_glob (v := .int 250) (by rfl) m_MOST (by first | exact rfl | exact ⟨_, rfl⟩)))))))
        (pss_one (ps_ret pe_bl))
        pss_nil)
      (pss_one (ps_ret (pe_callB (call_allK K) (by rfl) (by assumption) (by decide +kernel) (pa_cons (pe_lc (own := [("character", 1)]) (g := (gName 1)) (tt := tYes) rfl nd (pi_str (pv 0)) (blkOk_by (N := N_is_name) (sc := defScope s_is_name) (by decide +kernel)) (fun _ _ _ _ _ => (pg_name (i := 1) nd rfl (Or.inl rfl))) (fun _ _ _ _ _ => pts_nil) (fun _ _ _ _ _ => (pe_cmpR op_inSign (pv 1) (pe_glob (v := .str NC) (by rfl) m_NC (by first | exact rfl | exact ⟨_, rfl⟩)) (by rfl)))) pa_nil))))), ?_⟩
    rcases hx with ⟨z, rfl, hz⟩ | ⟨hx, T, h1, h2⟩
    · have hz' : z.length ≤ sizeLine := Nat.le_trans hz (by decide)
      have q' : ∀ H', Same H H' → Q (.bl (nameB z)) H' := q
      unfold nameB at q'
      walk_at "rd"
      refine r_iteD (fun h1 => ?_) (fun h1 => ?_)
      · walk_at "rd"
        refine r_iteN (fun h2 => ?_) (fun h2 => ?_)
        · walk_at "rd"
          have h3 : ¬ z.length ≤ 250 := by have := of_decide_eq_false h2; omega
          rw [decide_eq_false h3, Bool.and_false, Bool.false_and] at q'
          exact q' _ (Same.refl _)
        · walk_at "rd"
          intro D hD
          refine lc_map (cs := z.cps.toList) (enc := fun c => V.str ⟨#[c]⟩) (f := fun c => V.bl (decide (c ∈ NC.cps.toList))) walk_strC hD (by have : z.cps.size ≤ 5000 := hz; rw [Array.length_toList]; exact Nat.lt_of_le_of_lt this (by decide)) (fun H' e => True.intro) (fun x => rfl) ?_ ?_
          · intro c hc H' e Q' k'
            walk_at "rd"
            exact k' _ (Same.refl _)
          · intro H' e hl
            walk_at "rd"
            refine r_all (bs := z.cps.toList.map fun c => decide (c ∈ NC.cps.toList)) (by rw [List.map_map]; exact SqL.of hl) ?_
            have h3 : z.length ≤ 250 := by have := of_decide_eq_true h2; omega
            have h1' : 1 ≤ z.length := by omega
            rw [decide_eq_true h3, decide_eq_true h1', Bool.true_and, Bool.true_and] at q'
            have e2 : (z.cps.toList.map fun c => decide (c ∈ NC.cps.toList)).all id = z.cps.toList.all fun c => decide (c ∈ NC.cps.toList) := by rw [List.all_map]; rfl
            rw [e2]
            exact q' H' e
      · walk_at "rd"
        have h3 : ¬ 1 ≤ z.length := by omega
        rw [decide_eq_false h3, Bool.false_and, Bool.false_and] at q'
        exact q' _ (Same.refl _)
    · walk_at "rd"
      rw [hx] at q
      exact q _ (Same.refl _)
def Tr.nameB : Tr → Bool
  | .str z => Th.nameB z
  | _ => false
theorem Dn.anyS {H : Hp} {x : V} {t : Tr} (d : Dn H x t) (h : ∀ z, t = .str z → z.length ≤ 5000) : AnyS K H x ∧ nameV x = t.nameB := by
  have ty := d.tyX (K := K)
  cases d with
  | str z => exact ⟨.inl ⟨z, rfl, h z rfl⟩, rfl⟩
  | non => exact ⟨.inr ⟨rfl, _, ty, by decide +kernel⟩, rfl⟩
  | bl b => exact ⟨.inr ⟨rfl, "bool", ty, (show kitB "bool" "str" = some false by decide +kernel)⟩, rfl⟩
  | int i => exact ⟨.inr ⟨rfl, "int", ty, (show kitB "int" "str" = some false by decide +kernel)⟩, rfl⟩
  | byt y => exact ⟨.inr ⟨rfl, "bytes", ty, (show kitB "bytes" "str" = some false by decide +kernel)⟩, rfl⟩
  | lst h d => exact ⟨.inr ⟨rfl, "list", ty, (show kitB "list" "str" = some false by decide +kernel)⟩, rfl⟩
  | tup h d => exact ⟨.inr ⟨rfl, "tuple", ty, (show kitB "tuple" "str" = some false by decide +kernel)⟩, rfl⟩
  | emp h => exact ⟨.inr ⟨rfl, "dict", ty, (show kitB "dict" "str" = some false by decide +kernel)⟩, rfl⟩
theorem r_raise {C : Addr} {fld : Str} {i : Nat} {x : V} {t : Tr} {σ : L2.St} {H : Hp} {E : XK} (hi : σ[i]? = some (some x)) (dn : Dn H x t) (ht : TOk t) (q : Err C fld t H E) : tMkO C (spIX C fld) [] (tCons (tVar i) tNil) σ H (fun kl d H' => E kl d H') :=
  ⟨x, hi, by simp, mk_err dn ht q⟩
def spCkName (C : Addr) : Sp := fun vs H Q E => ∃ (x : V) (t : Tr), vs = [x] ∧ Dn H x t ∧ TOk t ∧ (∀ z, t = .str z → z.length ≤ 5000) ∧ (t.nameB = true → ∀ H', Same H H' → Q .non H') ∧ (t.nameB = false → Err C "name" t H E)
theorem ok_cname {f C : Addr} {fd : FuncData} {k : Nat} (F : Fun K "check_name" "check_name" s_check_name f fd) (R1 : Rai P w K mg base "NoName" C "name") (c_is_name : CalT P w K mg base 2 "is_name" (spName K)) : FnOk P w K mg base (L2.CX P w) (k + 9) f fd ["thing"] (spCkName C) := by
  refine F.okX sc_check_name (fun vs H Q E h => ?_) (fun cdv A outer s H vs Q E hr h => ?_)
  · obtain ⟨x, t, rfl, _⟩ := h
    rfl
  · obtain ⟨x, t, rfl, dn, ht, hz, q1, q2⟩ := h
    have hu := hu_of hr
    have nd := sc_check_name.nd
    obtain ⟨fI1, fd1, ps1, T1, ty1, F1, hb1, mm1⟩ := R1.ex
    refine ⟨_, (pss_one (ps_if (pt_not (pt_val (pe_cc c_is_name hr (by omega) (by rfl) (pa_cons (pv 0) pa_nil))))
        (pss_one (ps_raise rfl (takes_of rfl rfl rfl rfl) (pmk_oexG T1 ty1 F1 (hr.mono (by omega)) hb1 .nil pass0 (by rfl) mm1 (pa_cons (pv 0) pa_nil))))
        pss_nil)), ?_⟩
    obtain ⟨ha, hn⟩ := dn.anyS (K := K) hz
    walk_at "rd"
    refine sp_name ha (fun H1 e1 => ?_)
    rw [hn]
    cases hb : t.nameB with
    | true =>
      walk_at "rd"
      exact q1 hb _ e1
    | false =>
      walk_at "rd"
      exact r_raise rfl (Dn.same e1 dn) ht ((q2 hb).same e1)
def spCkData (C : Addr) : Sp := fun vs H Q E => ∃ (x : V) (t : Tr), vs = [x] ∧ Dn H x t ∧ TOk t ∧ (t.dataB = true → Q .non H) ∧ (t.dataB = false → Err C "thing" t H E)
theorem ok_cdata {f C : Addr} {fd : FuncData} {k : Nat} (F : Fun K "check_data" "check_data" s_check_data f fd) (R1 : Rai P w K mg base "NoData" C "thing") (c_isdata : CalT P w K mg base 1 "is_data" spData) : FnOk P w K mg base (L2.CX P w) (k + 9) f fd ["thing"] (spCkData C) := by
  refine F.okX sc_check_data (fun vs H Q E h => ?_) (fun cdv A outer s H vs Q E hr h => ?_)
  · obtain ⟨x, t, rfl, _⟩ := h
    rfl
  · obtain ⟨x, t, rfl, dn, ht, q1, q2⟩ := h
    have hu := hu_of hr
    have nd := sc_check_data.nd
    obtain ⟨fI1, fd1, ps1, T1, ty1, F1, hb1, mm1⟩ := R1.ex
    refine ⟨_, (pss_one (ps_if (pt_not (pt_val (pe_cc c_isdata hr (by omega) (by rfl) (pa_cons (pv 0) pa_nil))))
        (pss_one (ps_raise rfl (takes_of rfl rfl rfl rfl) (pmk_oexG T1 ty1 F1 (hr.mono (by omega)) hb1 .nil pass0 (by rfl) mm1 (pa_cons (pv 0) pa_nil))))
        pss_nil)), ?_⟩
    walk_at "rd"
    refine ⟨x, t, rfl, dn, ht.1, ?_⟩
    cases hb : t.dataB with
    | true =>
      walk_at "rd"
      exact q1 hb
    | false =>
      walk_at "rd"
      exact r_raise rfl dn ht (q2 hb)
/-- the first of the two that is wrong -/
def spCkStamp (CM CT : Addr) : Sp := fun vs H Q E => ∃ (x y : V) (t u : Tr), vs = [x, y] ∧ Dn H x t ∧ Dn H y u ∧ TOk t ∧ TOk u ∧ (t.within 0 4095 = true → u.within 0 8589934591 = true → Q .non H) ∧ (t.within 0 4095 = false → Err CM "mode" t H E) ∧ (t.within 0 4095 = true → u.within 0 8589934591 = false → Err CT "time" u H E)
theorem ok_stamp {f CM CT : Addr} {fd : FuncData} {k : Nat} (F : Fun K "check_mode_and_time" "check_mode_and_time" s_check_mode_and_time f fd) (R1 : Rai P w K mg base "NoMode" CM "mode") (R2 : Rai P w K mg base "NoTime" CT "time") (c_ismode : CalT P w K mg base 3 "is_mode" (spNumB 0 4095)) (c_istime : CalT P w K mg base 3 "is_time" (spNumB 0 8589934591)) : FnOk P w K mg base (L2.CX P w) (k + 9) f fd ["mode", "time"] (spCkStamp CM CT) := by
  refine F.okX sc_check_mode_and_time (fun vs H Q E h => ?_) (fun cdv A outer s H vs Q E hr h => ?_)
  · obtain ⟨x, y, t, u, rfl, _⟩ := h
    rfl
  · obtain ⟨x, y, t, u, rfl, d1, d2, h1, h2, q1, q2, q3⟩ := h
    have hu := hu_of hr
    have nd := sc_check_mode_and_time.nd
    obtain ⟨fI1, fd1, ps1, T1, ty1, F1, hb1, mm1⟩ := R1.ex
    obtain ⟨fI2, fd2, ps2, T2, ty2, F2, hb2, mm2⟩ := R2.ex
    refine ⟨_, (pss_cons (ps_if (pt_not (pt_val (pe_cc c_ismode hr (by omega) (by rfl) (pa_cons (pv 0) pa_nil))))
        (pss_one (ps_raise rfl (takes_of rfl rfl rfl rfl) (pmk_oexG T1 ty1 F1 (hr.mono (by omega)) hb1 .nil pass0 (by rfl) mm1 (pa_cons (pv 0) pa_nil))))
        pss_nil)
      (pss_one (ps_if (pt_not (pt_val (pe_cc c_istime hr (by omega) (by rfl) (pa_cons (pv 1) pa_nil))))
        (pss_one (ps_raise rfl (takes_of rfl rfl rfl rfl) (pmk_oexG T2 ty2 F2 (hr.mono (by omega)) hb2 .nil pass0 (by rfl) mm2 (pa_cons (pv 1) pa_nil))))
        pss_nil))), ?_⟩
    walk_at "rd"
    refine ⟨x, t, rfl, d1, ?_⟩
    cases hb : t.within 0 4095 with
    | true =>
      walk_at "rd"
      refine ⟨y, u, rfl, d2, ?_⟩
      cases hb2 : u.within 0 8589934591 with
      | true =>
        walk_at "rd"
        exact q1 hb hb2
      | false =>
        walk_at "rd"
        exact r_raise rfl d2 h2 (q3 hb hb2)
    | false =>
      walk_at "rd"
      exact r_raise rfl d1 h1 (q2 hb)
end
end Th
namespace Th
open PySem PySem.Spec PyProof.Rows L2
local macro_rules | `(tactic| walk_at "lk") => `(tactic| first
  | assumption
  | exact upd_same
  | (refine upd_old (by assumption) ?_; walk_at "lk")
  | (refine upd_diff (by assumption) ?_; walk_at "lk")
  | (refine upd_diff (Ne.symm (by assumption)) ?_; walk_at "lk"))
local macro_rules | `(tactic| walk_at "cnd") => `(tactic| first
  | omega
  | (refine ⟨by omega, by omega⟩)
  | (refine ⟨by omega, by omega, by omega⟩)
  | (refine .inl ⟨by omega, by omega⟩)
  | (refine .inr ⟨by omega, by omega⟩)
  | (exact (show CPow _ _ from ⟨by decide, by decide, by omega⟩))
  | decide +kernel
  | (unfold CMulW; decide +kernel)
  | (exact wide_div (b := 64) (by omega) (by omega) (by decide) (by decide)))
local macro_rules | `(tactic| walk_at "rd1") => `(tactic| first
  | (with_reducible refine r_seq ?_)
  | (with_reducible refine r_asg ?_)
  | (with_reducible refine r_ret ?_)
  | (with_reducible refine r_if ?_)
  | (with_reducible refine r_gname ?_)
  | ((with_reducible refine' r_var ?hv ?_); (case hv => exact rfl))
  | (with_reducible refine r_c ?_)
  | (with_reducible refine r_op ?_)
  | (with_reducible refine r_I0 ?_)
  | ((with_reducible refine r_I ?hc ?_); (case hc => walk_at "cnd"))
  | (with_reducible refine r_test ?_)
  | (with_reducible refine r_tB ?_)
  | (with_reducible refine r_bl ?_)
  | (with_reducible refine r_not ?_)
  | (with_reducible refine r_and ?_)
  | (with_reducible refine r_or ?_)
  | (with_reducible refine r_ifE ?_)
  | (with_reducible refine r_notV ?_)
  | (with_reducible refine r_andV ?_)
  | (with_reducible refine r_orV ?_)
  | (with_reducible refine r_chain ?_)
  | (with_reducible refine r_cb ?_)
  | (with_reducible refine r_call ?_)
  | (with_reducible refine r_callN ?_)
  | (with_reducible refine r_nil ?_)
  | (with_reducible refine r_cons ?_)
  | ((with_reducible refine r_lst ?_))
  | ((with_reducible refine r_tup ?_))
  | ((with_reducible refine r_new ?_ ?_); (exact Nat.le_of_ble_eq_true rfl); (intro p hp))
  | (with_reducible refine r_rInt1 ?_)
  | (with_reducible refine r_rIntB ?_)
  | (with_reducible refine r_rAbs ?_)
  | (with_reducible refine r_rMin2 ?_)
  | (with_reducible refine r_rMax2 ?_)
  | ((with_reducible refine r_rLenZ ?hz ?_); (case hz => first | assumption | exact Nat.le_of_ble_eq_true rfl | (refine Nat.le_trans ?_ (by decide : 100000 ≤ sizeLine); omega)))
  | ((with_reducible refine r_addZ ?hz ?_); (case hz => (refine Nat.le_trans ?_ (by decide : 100000 ≤ sizeLine); first | omega | (simp only [Str.length] at *; simp; omega))))
  | ((with_reducible refine r_mulZ ?hz ?h0 ?h1 ?_); (case hz => first | omega | exact Nat.le_of_ble_eq_true rfl); (case h0 => omega); (case h1 => omega))
  | ((with_reducible refine' r_rLenQ ?h1 ?_); (case h1 => first | (exact .inl (by assumption)) | (exact .inr (by assumption)) | (exact .inl (SqL.of (by walk_at "lk"))) | (exact .inr (SqT.of (by walk_at "lk")))))
  | ((with_reducible refine r_eq ?hs ?_); (case hs => exact rfl))
  | ((with_reducible refine r_ne ?hs ?_); (case hs => exact rfl))
  | (with_reducible refine r_inC ?_)
  | ((with_reducible refine' r_cat ?h1 ?h2 ?h3 ?_); (case h1 => walk_at "lk"); (case h2 => walk_at "lk"); (case h3 => exact Nat.le_of_ble_eq_true rfl); (intro p hp))
  | ((with_reducible refine' r_rep ?h1 ?h2 ?h3 ?h4 ?_); (case h1 => walk_at "lk"); (case h2 => omega); (case h3 => omega); (case h4 => exact Nat.le_of_ble_eq_true rfl); (intro p hp))
  | ((with_reducible refine' r_append ?h1 ?h2 ?_); (case h1 => walk_at "lk"); (case h2 => first | exact (show _ + 1 ≤ sizeLine from Nat.le_of_ble_eq_true rfl) | exact Nat.lt_of_le_of_lt (by omega : _ ≤ 100000) (by decide)))
  | (with_reducible refine r_bm ?_)
  | ((with_reducible refine' r_tyL ?h1 ?_); (case h1 => walk_at "lk"))
  | ((with_reducible refine' r_ixL ?h1 ?h2 ?_); (case h1 => first | assumption | exact SqL.of (by walk_at "lk")); (case h2 => exact rfl))
  | ((with_reducible refine' r_ixT ?h1 ?h2 ?_); (case h1 => first | assumption | exact SqT.of (by walk_at "lk")); (case h2 => exact rfl))
  | (with_reducible refine r_gsub ?_)
  | ((with_reducible refine' r_setL ?h1 ?h2 ?_); (case h1 => walk_at "lk"); (case h2 => exact rfl))
  | (with_reducible refine r_un ?_)
  | (with_reducible refine r_neg ?_)
  | (with_reducible refine r_iteT ?_)
  | (with_reducible refine r_iteNT ?_)
  | (with_reducible refine r_iteNF ?_)
  | (with_reducible refine r_iteF ?_)
  | (with_reducible refine r_next ?_)
  | (with_reducible refine r_drop ?_)
  | (with_reducible refine r_cont ?_)
  | (with_reducible refine r_brk ?_))
local macro_rules | `(tactic| walk_at "ty") => `(tactic| first
  | assumption
  | exact .base (.int _)
  | exact .base (.str _)
  | exact .base (.bl _)
  | exact .base .non
  | exact .byt _
  | exact .base (.lst (by walk_at "lk"))
  | exact .base (.tup (by walk_at "lk")))
local macro_rules | `(tactic| walk_at "rd2") => `(tactic| first
  | walk_at "rd1"
  | ((with_reducible refine' r_isi true ?ht ?hk ?_); (case ht => walk_at "ty"); (case hk => first | assumption | decide +kernel))
  | ((with_reducible refine' r_isi false ?ht ?hk ?_); (case ht => walk_at "ty"); (case hk => first | assumption | decide +kernel))
  | ((with_reducible refine' r_isiT2 true true ?hT ?ht ?hk ?hk2 ?_); (case hT => walk_at "lk"); (case ht => walk_at "ty"); (case hk => decide +kernel); (case hk2 => decide +kernel))
  | ((with_reducible refine' r_isiT2 true false ?hT ?ht ?hk ?hk2 ?_); (case hT => walk_at "lk"); (case ht => walk_at "ty"); (case hk => decide +kernel); (case hk2 => decide +kernel))
  | ((with_reducible refine' r_isiT2 false true ?hT ?ht ?hk ?hk2 ?_); (case hT => walk_at "lk"); (case ht => walk_at "ty"); (case hk => decide +kernel); (case hk2 => decide +kernel))
  | ((with_reducible refine' r_isiT2 false false ?hT ?ht ?hk ?hk2 ?_); (case hT => walk_at "lk"); (case ht => walk_at "ty"); (case hk => decide +kernel); (case hk2 => decide +kernel))
  | (with_reducible refine r_iteNT ?_)
  | ((show (if (!true) = true then _ else _)); refine r_iteNT ?_)
  | (with_reducible refine r_r1 ?_)
  | (with_reducible refine r_maks ?_)
  | (with_reducible refine r_sfld ?_)
  | ((with_reducible refine' r_sfldE ?h1 ?h2 ?h3 ?h4 ?_); (case h1 => walk_at "lk"); (case h2 => assumption); (case h3 => assumption); (case h4 => exact (show _ + 1 ≤ 1000 from Nat.le_of_ble_eq_true rfl)))
  | (with_reducible refine r_fld ?_)
  | (with_reducible refine r_join ?_)
  | (with_reducible refine r_jcons ?_)
  | (with_reducible refine r_jnil ?_)
  | ((with_reducible refine r_rLenY ?hz ?_); (case hz => first | assumption | (refine Nat.le_trans ?_ (by decide : 100000 ≤ sizeLine); omega)))
  | (with_reducible refine r_par ?_)
  | (with_reducible refine r_pair ?_)
  | (with_reducible refine r_par3 ?_)
  | (with_reducible refine r_trip ?_)
  | ((with_reducible refine' r_gtup ?h1 ?h2 ?_); (case h1 => first | assumption | exact SqT.of (by walk_at "lk")); (case h2 => exact rfl))
  | (with_reducible refine r_gcons ?_)
  | (with_reducible refine r_gnil ?_)
  | ((with_reducible refine' r_slL ?h1 ?_); (case h1 => first | assumption | exact SqL.of (by walk_at "lk")); (intro p hp))
  | (with_reducible refine r_iTup ?_)
  | ((with_reducible refine' r_tupE ?h1 ?_); (case h1 => first | assumption | exact SqT.of (by walk_at "lk")))
  | (with_reducible refine r_m1 ?_)
  | (with_reducible refine r_isZ ?_)
  | (with_reducible refine r_sl ?_)
  | (with_reducible refine r_noPart ?_)
  | (with_reducible refine r_part ?_)
  | (with_reducible refine r_partE ?_)
  | ((with_reducible refine r_slS ?hz ?_); (case hz => first | assumption | (refine Nat.le_trans ?_ (by decide : 100000 ≤ sizeLine); omega)))
  | ((with_reducible refine' r_inT ?h1 ?h2 ?h3 ?_); (case h1 => first | assumption | (exact SqT.of (by walk_at "lk"))); (case h2 => exact rfl); (case h3 => exact rfl))
  | ((with_reducible refine' r_inL ?h1 ?h2 ?h3 ?_); (case h1 => first | assumption | (exact SqL.of (by walk_at "lk"))); (case h2 => exact rfl); (case h3 => exact rfl))
  | (with_reducible refine r_lc ?_)
  | (with_reducible refine r_for ?_)
  | (with_reducible refine r_iStr ?_)
  | (with_reducible refine r_strE ?_)
  | (with_reducible refine r_iList ?_)
  | ((with_reducible refine' r_listE ?h1 ?_); (case h1 => first | assumption | exact SqL.of (by walk_at "lk")))
  | (with_reducible refine r_iRng1 ?_)
  | ((with_reducible refine' r_rngE ?h0 ?h1 ?_); (case h0 => first | omega | (split <;> omega)); (case h1 => first | omega | (split <;> omega))))
local macro_rules | `(tactic| walk_at "rd") => `(tactic| (repeat walk_at "rd2"))
local macro_rules | `(tactic| walk_at "st") => `(tactic| (repeat (first
  | (with_reducible refine r_gname ?_)
  | (with_reducible refine r_next ?_)
  | (with_reducible refine r_seq ?_)
  | (with_reducible refine r_asg ?_)
  | (with_reducible refine r_ret ?_)
  | (with_reducible refine r_for ?_)
  | (with_reducible refine r_iRng1 ?_)
  | (with_reducible refine r_iList ?_)
  | (with_reducible refine r_cons ?_)
  | (with_reducible refine r_par ?_)
  | (with_reducible refine r_par3 ?_))))
/-! ### pieces, right or wrong -/
def Tr.isY : Tr → Bool
  | .byt _ => true
  | _ => false
def Tr.pieceB : Tr → Bool
  | .tup [a, b] => a.within 0 4096 && b.isY
  | _ => false
def spanOf : Tr → Int × Int
  | .tup [.int o, .byt y] => (o, (y.size : Int))
  | _ => (0, 0)
def spansB (z : Int) : Int → List (Int × Int) → Bool
  | _, [] => true
  | l, s :: r => !decide (s.1 < l) && (!decide (s.2 < 1) && (!decide (s.1 + s.2 > z) && spansB z (s.1 + s.2 + 1) r))
def piecesB (z : Int) (ts : List Tr) : Bool := ts.all Tr.pieceB && spansB z 0 (ts.map spanOf)
theorem of_piece {H : Hp} {x : V} {t : Tr} (d : Dn H x t) (h : t.pieceB = true) : ∃ (q : Addr) (o : Int) (y : Array UInt8), x = .ref q ∧ H q = some (.tup [.int o, .byt y]) ∧ spanOf t = (o, (y.size : Int)) ∧ t = .tup [.int o, .byt y] := by
  cases d with
  | tup h1 d1 => cases d1 with
    | nil => cases h
    | cons a r => cases r with
      | nil => cases h
      | cons b r2 => cases r2 with
        | cons c r3 => cases h
        | nil =>
          simp only [Tr.pieceB, Bool.and_eq_true] at h
          obtain ⟨ha, hb⟩ := h
          cases a with
          | int o => cases b with
            | byt y => exact ⟨_, o, y, rfl, h1, rfl, rfl⟩
            | _ => cases hb
          | _ => cases ha
  | _ => cases h
theorem paired_at {α β : Type} {R : α → β → Prop} : ∀ {xs : List α} {ys : List β}, Paired R xs ys → ∀ {i : Nat} {x : α}, xs[i]? = some x → ∃ y, ys[i]? = some y ∧ R x y
  | _, _, .cons r t, 0, x, h => ⟨_, rfl, by cases h; exact r⟩
  | _, _, .cons r t, i + 1, x, h => paired_at t (i := i) h
theorem paired_snoc {α β : Type} {R : α → β → Prop} : ∀ {xs : List α} {ys : List β} {x : α} {y : β}, Paired R xs ys → R x y → Paired R (xs ++ [x]) (ys ++ [y])
  | _, _, _, _, .nil, r => .cons r .nil
  | _, _, _, _, .cons a b, r => .cons a (paired_snoc b r)
def SpnL (H : Hp) (p : Addr) (sp : List (Int × Int)) : Prop := ∃ as : List Addr, H p = some (.lst (as.map V.ref)) ∧ Paired (fun q (s : Int × Int) => H q = some (.tup [.int s.1, .int s.2])) as sp
section
variable {P : Program} {w : World} {K : PySem.W.Frag} {mg : Str → Option Value} {base : Heap}
def spPiece : Sp := fun vs H Q _ => ∃ (x : V) (t : Tr), vs = [x] ∧ Dn H x t ∧ t.small = true ∧ Q (.bl t.pieceB) H
theorem ok_piece {f : Addr} {fd : FuncData} {k : Nat} {t1 : Tok} (F : Fun K "is_piece" "is_piece" s_is_piece f fd) (m1 : mg "isinstance" = none) (m2 : mg "tuple" = none) (m3 : mg "len" = none) (m4 : mg "bytes" = none) (m_MB : mg "MOST_BYTES" = some (.int 4096 t1)) (c_within : CalT P w K mg base 2 "is_integer_within" spWithin) :
    FnOk P w K mg base CX0 (k + 3) f fd ["thing"] spPiece := by
  refine F.ok sc_is_piece (fun vs H Q E h => ?_) (fun cdv A outer s H vs Q E hr h => ?_)
  · obtain ⟨x, t, rfl, _⟩ := h
    rfl
  · obtain ⟨x, t, rfl, dn, hsm, q⟩ := h
    have hu := hu_of hr
    have nd := sc_is_piece.nd
    have ty := dn.tyX (K := K)
    refine ⟨_, (pss_cons (ps_if (PW.pt (pw_or (pt_not (pt_val (pe_callB (call_isiK1 K) (by rfl) (by assumption) (by decide +kernel) (pa_cons (pv 0) (pa_cons (pe_bltn (v := .ty "tuple") (by rfl) (by assumption) (by decide +kernel) rfl) pa_nil))))) (pw_or1 (pt_cmpR op_ne (pe_callB (call_lenK K) (by rfl) (by assumption) (by decide +kernel) (pa_cons (pv 0) pa_nil)) pe_int (nomark _)))))
        (pss_one (ps_ret pe_bl))
        pss_nil)
      (pss_one (ps_ret (pe_and (pe_cc c_within hr (by omega) (by rfl) (pa_cons (pe_ix (ix_tupK K) (pv 0) pe_int (fun _ _ => rfl)) (pa_cons pe_int (pa_cons (pe_glob (v := .int 4096) (by rfl) m_MB (by first | exact rfl | exact ⟨_, rfl⟩)) pa_nil)))) (pe_one (pe_callB (call_isiK1 K) (by rfl) (by assumption) (by decide +kernel) (pa_cons (pe_ix (ix_tupK K) (pv 0) pe_int (fun _ _ => rfl)) (pa_cons (pe_bltn (v := .ty "bytes") (by rfl) (by assumption) (by decide +kernel) rfl) pa_nil)))))))), ?_⟩
    cases dn with
    | tup h1 d1 =>
      simp only [Tr.ty] at ty
      simp only [Tr.small, Bool.and_eq_true, decide_eq_true_eq] at hsm
      have hl := d1.len
      cases d1 with
      | nil => walk_at "rd"; exact q
      | cons a r => cases r with
        | nil => walk_at "rd"; exact q
        | cons b r2 => cases r2 with
          | nil =>
            simp only [Tr.pieceB] at q
            walk_at "rd"
            refine sp_within a ?_
            rename_i t1 x2 t2
            cases hw : t1.within 0 4096 with
            | false =>
              rw [hw, Bool.false_and] at q
              walk_at "rd"
              exact q
            | true =>
              rw [hw, Bool.true_and] at q
              have ty2 := b.tyX (K := K)
              walk_at "rd"
              cases b <;> (simp only [Tr.ty] at ty2; simp only [Tr.isY] at q; walk_at "rd"; exact q)
          | cons c r3 =>
            rename_i ts3
            walk_at "rd"
            rw [show (!decide (V.int ((_ :: _ :: _ :: _ : List V).length : Int) = V.int 2)) = true by
              rw [List.length_cons, List.length_cons, List.length_cons, decide_eq_false (fun e => by injection e; omega)]
              rfl]
            walk_at "rd"
            exact q
    | _ => simp only [Tr.ty] at ty; walk_at "rd"; exact q
end
section
variable {P : Program} {w : World} {K : PySem.W.Frag} {mg : Str → Option Value} {base : Heap}
def spASpans : Sp := fun vs H Q _ => ∃ (z : Int) (p : Addr) (sp : List (Int × Int)), vs = [.int z, .ref p] ∧ SpnL H p sp ∧ z ≤ 4096 ∧ sp.length ≤ 50 ∧ (∀ s ∈ sp, 0 ≤ s.1 ∧ s.1 ≤ 4096 ∧ 0 ≤ s.2 ∧ s.2 ≤ 5000) ∧ ∀ H', Same H H' → Q (.bl (spansB z 0 sp)) H'
theorem ok_aspans {f : Addr} {fd : FuncData} {k : Nat} {t1 : Tok} (F : Fun K "are_spans" "are_spans" s_are_spans f fd) (m3 : mg "len" = none) (m_MP : mg "MOST_PIECES" = some (.int 50 t1)) : FnOk P w K mg base CX0 (k + 2) f fd ["size", "spans"] spASpans := by
  refine F.ok sc_are_spans (fun vs H Q E h => ?_) (fun cdv A outer s H vs Q E hr h => ?_)
  · obtain ⟨z, p, ps, rfl, _⟩ := h
    rfl
  · obtain ⟨z, p, ps, rfl, ⟨as, hp, hpd⟩, hz, hn, hall, q⟩ := h
    have hu := hu_of hr
    have nd := sc_are_spans.nd
    have hlen : (as.map V.ref).length = ps.length := by rw [List.length_map]; exact hpd.length
    refine ⟨_, (pss_cons (ps_if (pt_cmpR op_gt (pe_callB (call_lenK K) (by rfl) (by assumption) (by decide +kernel) (pa_cons (pv 1) pa_nil)) (pe_glob (v := .int 50) (by rfl) m_MP (by first | exact rfl | exact ⟨_, rfl⟩)) (nomark _))
        (pss_one (ps_ret pe_bl))
        pss_nil)
      (pss_cons (ps_set (i := 2) nd rfl (Or.inl rfl) pe_int)
      (pss_cons (ps_for PassesOwn.never rfl (pi_list (pv 1)) (pg_tupK K (pg_tup rfl (pgs_cons (pg_name (i := 3) nd rfl (Or.inl rfl)) (pgs_cons (pg_name (i := 4) nd rfl (Or.inl rfl)) pgs_nil))))
        (pss_cons (ps_if (PW.pt (pw_or (pt_cmpR op_lt (pv 3) (pv 2) (nomark _)) (pw_or (pt_cmpR op_lt (pv 4) pe_int (nomark _)) (pw_or1 (pt_cmpR op_gt (pe_op op_add (pv 3) (pv 4)) (pv 0) (nomark _))))))
        (pss_one (ps_ret pe_bl))
        pss_nil)
      (pss_one (ps_set (i := 2) nd rfl (Or.inl rfl) (pe_op op_add (pe_op op_add (pv 3) (pv 4)) pe_int)))))
      (pss_one (ps_ret pe_bl))))), ?_⟩
    walk_at "rd"
    refine r_iteD (fun h => absurd h (by omega)) (fun _ => ?_)
    walk_at "rd"
    refine for_it (walk_list (xs := as.map V.ref)) (fun i σ H' => ∃ (l : Int) (v1 v2 : Option V), σ = [some (.int z), some (.ref p), some (.int l), v1, v2] ∧ Same H H' ∧ 0 ≤ l ∧ l ≤ 100000 ∧ spansB z l (ps.drop i) = spansB z 0 ps) ?_ (fun i σ H' _ ⟨_, _, _, _, e, _⟩ => SqL.of (e _ _ hp)) ?_ ?_
    · exact ⟨0, _, _, rfl, Same.refl _, Int.le_refl 0, by decide, rfl⟩
    · rintro i x σ Hc H' hi ⟨l, v1, v2, rfl, e, hl, hl2, hs⟩ ⟨rfl, hx⟩
      rw [List.getElem?_map] at hx
      obtain ⟨qa, hqa, rfl⟩ : ∃ qa, as[i]? = some qa ∧ V.ref qa = x := by
        cases e : as[i]? with
        | none => rw [e] at hx; cases hx
        | some qa => rw [e] at hx; exact ⟨qa, rfl, Option.some.inj hx⟩
      obtain ⟨s, hsi, hqt⟩ := paired_at hpd hqa
      have hq' := e _ _ hqt
      obtain ⟨b1, b2, b3, b4⟩ := hall s (List.mem_of_getElem? hsi)
      have hdrop : ps.drop i = s :: ps.drop (i + 1) := by
        obtain ⟨hlt, hge⟩ := List.getElem?_eq_some_iff.mp hsi
        rw [← hge]
        exact List.drop_eq_getElem_cons hlt
      rw [hdrop] at hs
      have hs' : (!decide (s.1 < l) && (!decide (s.2 < 1) && (!decide (s.1 + s.2 > z) && spansB z (s.1 + s.2 + 1) (ps.drop (i + 1))))) = spansB z 0 ps := hs
      walk_at "rd"
      refine r_iteD (fun h1 => ?_) (fun h1 => ?_)
      · walk_at "rd"
        rw [decide_eq_true h1] at hs'
        rw [← hs'] at q
        exact q _ e
      · rw [decide_eq_false h1, Bool.not_false, Bool.true_and] at hs'
        walk_at "rd"
        refine r_iteD (fun h2 => ?_) (fun h2 => ?_)
        · walk_at "rd"
          rw [decide_eq_true h2] at hs'
          rw [← hs'] at q
          exact q _ e
        · rw [decide_eq_false h2, Bool.not_false, Bool.true_and] at hs'
          walk_at "rd"
          refine r_iteD (fun h3 => ?_) (fun h3 => ?_)
          · walk_at "rd"
            rw [show decide (s.1 + s.2 > z) = true from decide_eq_true h3] at hs'
            rw [← hs'] at q
            exact q _ e
          · rw [show decide (s.1 + s.2 > z) = false from decide_eq_false h3, Bool.not_false, Bool.true_and] at hs'
            walk_at "rd"
            exact ⟨_, _, _, rfl, e, by omega, by omega, hs'⟩
    · rintro σ Hc ⟨l, v1, v2, rfl, e, _, _, hs⟩
      rw [hlen, List.drop_length] at hs
      walk_at "rd"
      rw [← hs] at q
      exact q _ e
def spAPieces : Sp := fun vs H Q _ => ∃ (z : Int) (p : Addr) (xs : List V) (ts : List Tr), vs = [.int z, .ref p] ∧ H p = some (.tup xs) ∧ DnA H xs ts ∧ z ≤ 4096 ∧ ts.length ≤ 50 ∧ Tr.smallAll ts = true ∧ Tr.okAll ts = true ∧ ∀ H', Same H H' → Q (.bl (piecesB z ts)) H'
theorem okAll_at : ∀ {ts : List Tr} {i : Nat} {t : Tr}, Tr.okAll ts = true → ts[i]? = some t → t.ok = true
  | t0 :: ts, 0, t, h, e => by
    cases e
    simp only [Tr.okAll, Bool.and_eq_true] at h
    exact h.1
  | t0 :: ts, i + 1, t, h, e => by
    simp only [Tr.okAll, Bool.and_eq_true] at h
    exact okAll_at (i := i) h.2 e
theorem within_le {lo hi : Int} {i : Int} (h : (Tr.int i).within lo hi = true) : lo ≤ i ∧ i ≤ hi := by
  simp only [Tr.within, Bool.and_eq_true, decide_eq_true_eq] at h
  exact h
theorem ok_apieces {f : Addr} {fd : FuncData} {k : Nat} (F : Fun K "are_pieces" "are_pieces" s_are_pieces f fd) (m3 : mg "len" = none) (m4 : mg "all" = none) (c_piece : CalT P w K mg base 3 "is_piece" spPiece) (c_aspans : CalT P w K mg base 2 "are_spans" spASpans) :
    FnOk P w K mg base CX0 (k + 4) f fd ["size", "pieces"] spAPieces := by
  refine F.ok sc_are_pieces (fun vs H Q E h => ?_) (fun cdv A outer s H vs Q E hr h => ?_)
  · obtain ⟨z, p, xs, ts, rfl, _⟩ := h
    rfl
  · obtain ⟨z, p, xs, ts, rfl, hp, hd, hz, hn, hsm, hok, q⟩ := h
    have hu := hu_of hr
    have nd := sc_are_pieces.nd
    have hal : xs.length = ts.length := hd.len
    refine ⟨_, (pss_cons (ps_if (pt_not (pt_val (pe_callB (call_allK K) (by rfl) (by assumption) (by decide +kernel) (pa_cons (pe_lc (own := [("piece", 4)]) (g := (gName 4)) (tt := tYes) rfl nd (pi_tup (pv 1)) (blkOk_by (N := N_are_pieces) (sc := defScope s_are_pieces) (by decide +kernel)) (fun _ _ _ _ _ => (pg_name (i := 4) nd rfl (Or.inl rfl))) (fun _ _ _ _ _ => pts_nil) (fun _ _ _ _ _ => (pe_cc c_piece hr (by omega) (by rfl) (pa_cons (pv 4) pa_nil)))) pa_nil))))
        (pss_one (ps_ret pe_bl))
        pss_nil)
      (pss_one (ps_ret (pe_cc c_aspans hr (by omega) (by rfl) (pa_cons (pv 0) (pa_cons (pe_lc (own := [("offset", 2), ("data", 3)]) (g := (gTup K 2 (gCons (gName 2) (gCons (gName 3) gNil)))) (tt := tYes) rfl nd (pi_tup (pv 1)) (blkOk_by (N := N_are_pieces) (sc := defScope s_are_pieces) (by decide +kernel)) (fun _ _ _ _ _ => (pg_tupK K (pg_tup rfl (pgs_cons (pg_name (i := 2) nd rfl (Or.inl rfl)) (pgs_cons (pg_name (i := 3) nd rfl (Or.inl rfl)) pgs_nil))))) (fun _ _ _ _ _ => pts_nil) (fun _ _ _ _ _ => (pe_tup (pa_cons (pv 2) (pa_cons (pe_callB call_rLenY (by rfl) (by assumption) (by decide +kernel) (pa_cons (pv 3) pa_nil)) pa_nil))))) pa_nil)))))), ?_⟩
    walk_at "rd"
    intro D hD
    refine lc_it (walk_tup (xs := xs)) (fun i H' => Same H H' ∧ H' D = some (.lst (((ts.map Tr.pieceB).take i).map V.bl))) ⟨same_new hD, upd_same⟩ (fun i H' _ ⟨e, _⟩ => SqT.of (e _ _ hp)) ?_ ?_
    · rintro i x Hc H' hi ⟨e, hb⟩ ⟨rfl, hx⟩
      obtain ⟨t1, ht1, d1⟩ := hd.at hx
      walk_at "rd"
      refine ⟨rfl, ?_⟩
      unfold tYes
      dsimp only
      rw [if_pos rfl]
      walk_at "rd"
      refine ⟨x, t1, rfl, Dn.same e d1, smallAll_at hsm ht1, ?_⟩
      refine ⟨_, hb, ?_, fun b o eo => ?_, ?_⟩
      · rw [List.length_map, List.length_take, List.length_map]
        exact Nat.lt_of_lt_of_le (by omega : _ < 51) (by decide)
      · rw [upd_ne (ne_of_none eo hD)]
        exact e _ _ eo
      · have hsn : (ts.map Tr.pieceB)[i]? = some t1.pieceB := by rw [List.getElem?_map, ht1]; rfl
        rw [upd_same, take_snocT hsn, List.map_append]
        rfl
    · rintro H1 ⟨e, hb⟩
      rw [hal, show ts.length = (ts.map Tr.pieceB).length from by rw [List.length_map], List.take_length] at hb
      refine r_nil ?_
      refine r_all (bs := ts.map Tr.pieceB) (SqL.of hb) ?_
      have hall : (ts.map Tr.pieceB).all id = ts.all Tr.pieceB := by rw [List.all_map]; rfl
      rw [hall]
      have hp1 := e _ _ hp
      unfold piecesB at q
      cases hb2 : ts.all Tr.pieceB with
      | false =>
        rw [hb2, Bool.false_and] at q
        walk_at "rd"
        exact q _ e
      | true =>
        rw [hb2, Bool.true_and] at q
        have hpc := List.all_eq_true.mp hb2
        walk_at "rd"
        intro D2 hD2
        refine lc_it (walk_tup (xs := xs)) (fun i H' => Same H1 H' ∧ ∃ bs : List Addr, H' D2 = some (.lst (bs.map V.ref)) ∧ Paired (fun q (s : Int × Int) => q ≠ D2 ∧ H' q = some (.tup [.int s.1, .int s.2])) bs ((ts.map spanOf).take i)) ?_ (fun i H' _ ⟨e', _⟩ => SqT.of (e' _ _ hp1)) ?_ ?_
        · exact ⟨same_new hD2, [], upd_same, .nil⟩
        · rintro i x Hc H' hi ⟨e', bs, hb', hbp⟩ ⟨rfl, hx⟩
          obtain ⟨t1, ht1, d1⟩ := hd.at hx
          obtain ⟨qa, o, y, rfl, hqt, hsp, rfl⟩ := of_piece d1 (hpc t1 (List.mem_of_getElem? ht1))
          have hq' := e' _ _ (e _ _ hqt)
          have hok1 := okAll_at hok ht1
          have hy : y.size ≤ 100000 := by
            simp only [Tr.ok, Tr.okAll, Bool.and_eq_true, decide_eq_true_eq] at hok1
            omega
          walk_at "rd"
          refine ⟨rfl, ?_⟩
          unfold tYes
          dsimp only
          rw [if_pos rfl]
          walk_at "rd"
          rename_i T hT
          have nTD : T ≠ D2 := (ne_of_none hb' hT).symm
          have hbl : (bs.map V.ref).length ≤ 50 := by
            rw [List.length_map, hbp.length, List.length_take, List.length_map]
            omega
          have hsn : (ts.map spanOf)[i]? = some (o, (y.size : Int)) := by rw [List.getElem?_map, ht1]; rfl
          refine ⟨_, upd_old hT hb', Nat.lt_of_le_of_lt hbl (by decide), fun b o eo => ?_, bs ++ [T], by rw [upd_same, List.map_append]; rfl, ?_⟩
          · have h2 := e' _ _ eo
            rw [upd_ne (ne_of_none eo hD2), upd_ne (ne_of_none h2 hT)]
            exact h2
          · rw [take_snocT hsn]
            refine paired_snoc (Paired.mapP hbp fun y s ⟨n1, g1⟩ => ⟨n1, ?_⟩) ⟨nTD, ?_⟩
            · rw [upd_ne n1, upd_ne (ne_of_none g1 hT)]
              exact g1
            · rw [upd_ne nTD, upd_same]
        · rintro H2 ⟨e', bs, hb', hbp⟩
          rw [hal, show ts.length = (ts.map spanOf).length from by rw [List.length_map], List.take_length] at hbp
          refine r_nil ?_
          refine ⟨z, D2, ts.map spanOf, rfl, ⟨bs, hb', Paired.mapP hbp fun y s ⟨_, g1⟩ => g1⟩, hz, by rw [List.length_map]; exact hn, fun s hs => ?_, fun H3 e3 => ?_⟩
          · obtain ⟨t1, hm, rfl⟩ := List.mem_map.mp hs
            obtain ⟨i, hi⟩ := List.getElem?_of_mem hm
            obtain ⟨x, hx⟩ : ∃ x, xs[i]? = some x := ⟨xs[i]'(by have := (List.getElem?_eq_some_iff.mp hi).1; omega), List.getElem?_eq_getElem _⟩
            obtain ⟨t2, ht2, d2⟩ := hd.at hx
            rw [hi] at ht2
            cases ht2
            have hpt := hpc t1 hm
            obtain ⟨qa, o, y, rfl, hqt, hsp, rfl⟩ := of_piece d2 hpt
            have hok1 := okAll_at hok hi
            simp only [Tr.pieceB, Tr.within, Bool.and_eq_true, decide_eq_true_eq] at hpt
            simp only [Tr.ok, Tr.okAll, Bool.and_eq_true, decide_eq_true_eq] at hok1
            simp only [spanOf]
            omega
          · walk_at "rd"
            exact q _ ((e.trans e').trans e3)
end
end Th
namespace Th
open PySem PySem.Spec PyProof.Rows L2
local macro_rules | `(tactic| walk_at "lk") => `(tactic| first
  | assumption
  | exact upd_same
  | (refine upd_old (by assumption) ?_; walk_at "lk")
  | (refine upd_diff (by assumption) ?_; walk_at "lk")
  | (refine upd_diff (Ne.symm (by assumption)) ?_; walk_at "lk"))
local macro_rules | `(tactic| walk_at "cnd") => `(tactic| first
  | omega
  | (refine ⟨by omega, by omega⟩)
  | (refine ⟨by omega, by omega, by omega⟩)
  | (refine .inl ⟨by omega, by omega⟩)
  | (refine .inr ⟨by omega, by omega⟩)
  | (exact (show CPow _ _ from ⟨by decide, by decide, by omega⟩))
  | decide +kernel
  | (unfold CMulW; decide +kernel)
  | (exact wide_div (b := 64) (by omega) (by omega) (by decide) (by decide)))
local macro_rules | `(tactic| walk_at "rd1") => `(tactic| first
  | (with_reducible refine r_seq ?_)
  | (with_reducible refine r_asg ?_)
  | (with_reducible refine r_ret ?_)
  | (with_reducible refine r_if ?_)
  | (with_reducible refine r_gname ?_)
  | ((with_reducible refine' r_var ?hv ?_); (case hv => exact rfl))
  | (with_reducible refine r_c ?_)
  | (with_reducible refine r_op ?_)
  | (with_reducible refine r_I0 ?_)
  | ((with_reducible refine r_I ?hc ?_); (case hc => walk_at "cnd"))
  | (with_reducible refine r_test ?_)
  | (with_reducible refine r_tB ?_)
  | (with_reducible refine r_bl ?_)
  | (with_reducible refine r_not ?_)
  | (with_reducible refine r_and ?_)
  | (with_reducible refine r_or ?_)
  | (with_reducible refine r_ifE ?_)
  | (with_reducible refine r_notV ?_)
  | (with_reducible refine r_andV ?_)
  | (with_reducible refine r_orV ?_)
  | (with_reducible refine r_chain ?_)
  | (with_reducible refine r_cb ?_)
  | (with_reducible refine r_call ?_)
  | (with_reducible refine r_callN ?_)
  | (with_reducible refine r_nil ?_)
  | (with_reducible refine r_cons ?_)
  | ((with_reducible refine r_lst ?_))
  | ((with_reducible refine r_tup ?_))
  | ((with_reducible refine r_new ?_ ?_); (exact Nat.le_of_ble_eq_true rfl); (intro p hp))
  | (with_reducible refine r_rInt1 ?_)
  | (with_reducible refine r_rIntB ?_)
  | (with_reducible refine r_rAbs ?_)
  | (with_reducible refine r_rMin2 ?_)
  | (with_reducible refine r_rMax2 ?_)
  | ((with_reducible refine r_rLenZ ?hz ?_); (case hz => first | assumption | exact Nat.le_of_ble_eq_true rfl | (refine Nat.le_trans ?_ (by decide : 100000 ≤ sizeLine); omega)))
  | ((with_reducible refine r_addZ ?hz ?_); (case hz => (refine Nat.le_trans ?_ (by decide : 100000 ≤ sizeLine); first | omega | (simp only [Str.length] at *; simp; omega))))
  | ((with_reducible refine r_mulZ ?hz ?h0 ?h1 ?_); (case hz => first | omega | exact Nat.le_of_ble_eq_true rfl); (case h0 => omega); (case h1 => omega))
  | ((with_reducible refine' r_rLenQ ?h1 ?_); (case h1 => first | (exact .inl (by assumption)) | (exact .inr (by assumption)) | (exact .inl (SqL.of (by walk_at "lk"))) | (exact .inr (SqT.of (by walk_at "lk")))))
  | ((with_reducible refine r_eq ?hs ?_); (case hs => exact rfl))
  | ((with_reducible refine r_ne ?hs ?_); (case hs => exact rfl))
  | (with_reducible refine r_inC ?_)
  | ((with_reducible refine' r_cat ?h1 ?h2 ?h3 ?_); (case h1 => walk_at "lk"); (case h2 => walk_at "lk"); (case h3 => exact Nat.le_of_ble_eq_true rfl); (intro p hp))
  | ((with_reducible refine' r_rep ?h1 ?h2 ?h3 ?h4 ?_); (case h1 => walk_at "lk"); (case h2 => omega); (case h3 => omega); (case h4 => exact Nat.le_of_ble_eq_true rfl); (intro p hp))
  | ((with_reducible refine' r_append ?h1 ?h2 ?_); (case h1 => walk_at "lk"); (case h2 => first | exact (show _ + 1 ≤ sizeLine from Nat.le_of_ble_eq_true rfl) | exact Nat.lt_of_le_of_lt (by omega : _ ≤ 100000) (by decide)))
  | (with_reducible refine r_bm ?_)
  | ((with_reducible refine' r_tyL ?h1 ?_); (case h1 => walk_at "lk"))
  | ((with_reducible refine' r_ixL ?h1 ?h2 ?_); (case h1 => first | assumption | exact SqL.of (by walk_at "lk")); (case h2 => exact rfl))
  | ((with_reducible refine' r_ixT ?h1 ?h2 ?_); (case h1 => first | assumption | exact SqT.of (by walk_at "lk")); (case h2 => exact rfl))
  | (with_reducible refine r_gsub ?_)
  | ((with_reducible refine' r_setL ?h1 ?h2 ?_); (case h1 => walk_at "lk"); (case h2 => exact rfl))
  | (with_reducible refine r_un ?_)
  | (with_reducible refine r_neg ?_)
  | (with_reducible refine r_iteT ?_)
  | (with_reducible refine r_iteNT ?_)
  | (with_reducible refine r_iteNF ?_)
  | (with_reducible refine r_iteF ?_)
  | (with_reducible refine r_next ?_)
  | (with_reducible refine r_drop ?_)
  | (with_reducible refine r_cont ?_)
  | (with_reducible refine r_brk ?_))
local macro_rules | `(tactic| walk_at "ty") => `(tactic| first
  | assumption
  | exact .base (.int _)
  | exact .base (.str _)
  | exact .base (.bl _)
  | exact .base .non
  | exact .byt _
  | exact .base (.lst (by walk_at "lk"))
  | exact .base (.tup (by walk_at "lk")))
local macro_rules | `(tactic| walk_at "rd2") => `(tactic| first
  | walk_at "rd1"
  | ((with_reducible refine' r_isi true ?ht ?hk ?_); (case ht => walk_at "ty"); (case hk => first | assumption | decide +kernel))
  | ((with_reducible refine' r_isi false ?ht ?hk ?_); (case ht => walk_at "ty"); (case hk => first | assumption | decide +kernel))
  | ((with_reducible refine' r_isiT2 true true ?hT ?ht ?hk ?hk2 ?_); (case hT => walk_at "lk"); (case ht => walk_at "ty"); (case hk => decide +kernel); (case hk2 => decide +kernel))
  | ((with_reducible refine' r_isiT2 true false ?hT ?ht ?hk ?hk2 ?_); (case hT => walk_at "lk"); (case ht => walk_at "ty"); (case hk => decide +kernel); (case hk2 => decide +kernel))
  | ((with_reducible refine' r_isiT2 false true ?hT ?ht ?hk ?hk2 ?_); (case hT => walk_at "lk"); (case ht => walk_at "ty"); (case hk => decide +kernel); (case hk2 => decide +kernel))
  | ((with_reducible refine' r_isiT2 false false ?hT ?ht ?hk ?hk2 ?_); (case hT => walk_at "lk"); (case ht => walk_at "ty"); (case hk => decide +kernel); (case hk2 => decide +kernel))
  | (with_reducible refine r_iteNT ?_)
  | ((show (if (!true) = true then _ else _)); refine r_iteNT ?_)
  | (with_reducible refine r_r1 ?_)
  | (with_reducible refine r_maks ?_)
  | (with_reducible refine r_sfld ?_)
  | ((with_reducible refine' r_sfldE ?h1 ?h2 ?h3 ?h4 ?_); (case h1 => walk_at "lk"); (case h2 => assumption); (case h3 => assumption); (case h4 => exact (show _ + 1 ≤ 1000 from Nat.le_of_ble_eq_true rfl)))
  | (with_reducible refine r_fld ?_)
  | (with_reducible refine r_join ?_)
  | (with_reducible refine r_jcons ?_)
  | (with_reducible refine r_jnil ?_)
  | ((with_reducible refine r_rLenY ?hz ?_); (case hz => first | assumption | (refine Nat.le_trans ?_ (by decide : 100000 ≤ sizeLine); omega)))
  | (with_reducible refine r_par ?_)
  | (with_reducible refine r_pair ?_)
  | (with_reducible refine r_par3 ?_)
  | (with_reducible refine r_trip ?_)
  | ((with_reducible refine' r_gtup ?h1 ?h2 ?_); (case h1 => first | assumption | exact SqT.of (by walk_at "lk")); (case h2 => exact rfl))
  | (with_reducible refine r_gcons ?_)
  | (with_reducible refine r_gnil ?_)
  | ((with_reducible refine' r_slL ?h1 ?_); (case h1 => first | assumption | exact SqL.of (by walk_at "lk")); (intro p hp))
  | (with_reducible refine r_iTup ?_)
  | ((with_reducible refine' r_tupE ?h1 ?_); (case h1 => first | assumption | exact SqT.of (by walk_at "lk")))
  | (with_reducible refine r_m1 ?_)
  | (with_reducible refine r_isZ ?_)
  | (with_reducible refine r_sl ?_)
  | (with_reducible refine r_noPart ?_)
  | (with_reducible refine r_part ?_)
  | (with_reducible refine r_partE ?_)
  | ((with_reducible refine r_slS ?hz ?_); (case hz => first | assumption | (refine Nat.le_trans ?_ (by decide : 100000 ≤ sizeLine); omega)))
  | ((with_reducible refine' r_inT ?h1 ?h2 ?h3 ?_); (case h1 => first | assumption | (exact SqT.of (by walk_at "lk"))); (case h2 => exact rfl); (case h3 => exact rfl))
  | ((with_reducible refine' r_inL ?h1 ?h2 ?h3 ?_); (case h1 => first | assumption | (exact SqL.of (by walk_at "lk"))); (case h2 => exact rfl); (case h3 => exact rfl))
  | (with_reducible refine r_lc ?_)
  | (with_reducible refine r_for ?_)
  | (with_reducible refine r_iStr ?_)
  | (with_reducible refine r_strE ?_)
  | (with_reducible refine r_iList ?_)
  | ((with_reducible refine' r_listE ?h1 ?_); (case h1 => first | assumption | exact SqL.of (by walk_at "lk")))
  | (with_reducible refine r_iRng1 ?_)
  | ((with_reducible refine' r_rngE ?h0 ?h1 ?_); (case h0 => first | omega | (split <;> omega)); (case h1 => first | omega | (split <;> omega))))
local macro_rules | `(tactic| walk_at "rd") => `(tactic| (repeat walk_at "rd2"))
local macro_rules | `(tactic| walk_at "st") => `(tactic| (repeat (first
  | (with_reducible refine r_gname ?_)
  | (with_reducible refine r_next ?_)
  | (with_reducible refine r_seq ?_)
  | (with_reducible refine r_asg ?_)
  | (with_reducible refine r_ret ?_)
  | (with_reducible refine r_for ?_)
  | (with_reducible refine r_iRng1 ?_)
  | (with_reducible refine r_iList ?_)
  | (with_reducible refine r_cons ?_)
  | (with_reducible refine r_par ?_)
  | (with_reducible refine r_par3 ?_))))
/-! ### what the members' __init__ find wrong first -/
structure Ec where
  N : Addr
  D : Addr
  M : Addr
  T : Addr
  S : Addr
  P : Addr
inductive Vd where
  | ok
  | err (C : Addr) (fld : Str) (t : Tr)
def Vd.run (v : Vd) (H : Hp) (good : Prop) (E : XK) : Prop := match v with
  | .ok => good
  | .err C fld t => Err C fld t H E
def vStamp (c : Ec) (t u : Tr) : Vd := if t.within 0 4095 = true then (if u.within 0 8589934591 = true then .ok else .err c.T "time" u) else .err c.M "mode" t
def vName (c : Ec) (n : Tr) (r : Vd) : Vd := if n.nameB = true then r else .err c.N "name" n
def vData (c : Ec) (d : Tr) (r : Vd) : Vd := if d.dataB = true then r else .err c.D "thing" d
def vPieces (c : Ec) (z : Tr) (ts : List Tr) (r : Vd) : Vd := match z with
  | .int i => if (Tr.int i).within 0 4096 = true then (if piecesB i ts = true then r else .err c.P "pieces" (.tup ts)) else .err c.S "size" (.int i)
  | _ => .err c.S "size" z
theorem vName_ok {c : Ec} {n : Tr} {r : Vd} (h : n.nameB = true) : vName c n r = r := if_pos h
theorem vName_no {c : Ec} {n : Tr} {r : Vd} (h : n.nameB = false) : vName c n r = .err c.N "name" n := if_neg (by rw [h]; exact Bool.false_ne_true)
theorem vData_ok {c : Ec} {n : Tr} {r : Vd} (h : n.dataB = true) : vData c n r = r := if_pos h
theorem vData_no {c : Ec} {n : Tr} {r : Vd} (h : n.dataB = false) : vData c n r = .err c.D "thing" n := if_neg (by rw [h]; exact Bool.false_ne_true)
theorem vStamp_ok {c : Ec} {t u : Tr} (h : t.within 0 4095 = true) (h2 : u.within 0 8589934591 = true) : vStamp c t u = .ok := (if_pos h).trans (if_pos h2)
theorem vStamp_m {c : Ec} {t u : Tr} (h : t.within 0 4095 = false) : vStamp c t u = .err c.M "mode" t := if_neg (by rw [h]; exact Bool.false_ne_true)
theorem vStamp_t {c : Ec} {t u : Tr} (h : t.within 0 4095 = true) (h2 : u.within 0 8589934591 = false) : vStamp c t u = .err c.T "time" u := (if_pos h).trans (if_neg (by rw [h2]; exact Bool.false_ne_true))
/-- all but x stays -/
def Frame (x : Addr) (H H' : Hp) : Prop := ∀ b o, b ≠ x → H b = some o → H' b = some o
def NmOk (t : Tr) : Prop := TOk t ∧ ∀ z, t = .str z → z.length ≤ 5000
section
variable {X : Cx} {j k : Nat} {x : Str} {sp : Sp} {E : XK} {e : Expr} {es : List Expr} {p pos : Pos} {t : TA}
theorem pe_cp (c : CalX X.prog X.w X.K X.mg X.base k x sp) (hr : Room j X.A) (hk : k ≤ j) (hg : Gl X x) (hx : Passes (L2.CX X.prog X.w) X E) (ha : PA X (e :: es) t) (hdb : (x == ("__debug__" : Str)) = false := by decide)
    (he : starEach (e :: es) X.env = (false, eval e X.env) :: starEach es X.env := by rfl) (hpl : (backTo pos (starEach es X.env)).any (·.1) = false := by rfl) : PE X (.Call (.Name x p) (e :: es) [] pos) (tCall sp [] E t) := by
  obtain ⟨f, fd, ps, F, hm, kp, b⟩ := c.ex
  exact pe_call F (hr.mono hk) hg hm kp b .nil hx ha hdb he hpl
end
section
variable {P : Program} {w : World} {K : PySem.W.Frag} {mg : Str → Option Value} {base : Heap}
def spCkPieces (c : Ec) : Sp := fun vs H Q E => ∃ (x : V) (p : Addr) (z : Tr) (xs : List V) (ts : List Tr), vs = [x, .ref p] ∧ Dn H x z ∧ H p = some (.tup xs) ∧ DnA H xs ts ∧ TOk z ∧ TOk (.tup ts) ∧ ts.length ≤ 50 ∧ (vPieces c z ts .ok).run H (∀ H', Same H H' → Q .non H') E
theorem ok_cpieces {f : Addr} {fd : FuncData} {k : Nat} {c : Ec} (F : Fun K "check_pieces" "check_pieces" s_check_pieces f fd) (R1 : Rai P w K mg base "NoSize" c.S "size") (R2 : Rai P w K mg base "NoPieces" c.P "pieces") (c_issize : CalT P w K mg base 3 "is_size" (spNumB 0 4096)) (c_apieces : CalT P w K mg base 4 "are_pieces" spAPieces) : FnOk P w K mg base (L2.CX P w) (k + 9) f fd ["size", "pieces"] (spCkPieces c) := by
  refine F.okX sc_check_pieces (fun vs H Q E h => ?_) (fun cdv A outer s H vs Q E hr h => ?_)
  · obtain ⟨x, p, z, xs, ts, rfl, _⟩ := h
    rfl
  · obtain ⟨x, p, z, xs, ts, rfl, dz, hp, hd, tz, tp, hn, q⟩ := h
    have hu := hu_of hr
    have nd := sc_check_pieces.nd
    obtain ⟨fI1, fd1, ps1, T1, ty1, F1, hb1, mm1⟩ := R1.ex
    obtain ⟨fI2, fd2, ps2, T2, ty2, F2, hb2, mm2⟩ := R2.ex
    refine ⟨_, (pss_cons (ps_if (pt_not (pt_val (pe_cc c_issize hr (by omega) (by rfl) (pa_cons (pv 0) pa_nil))))
        (pss_one (ps_raise rfl (takes_of rfl rfl rfl rfl) (pmk_oexG T1 ty1 F1 (hr.mono (by omega)) hb1 .nil pass0 (by rfl) mm1 (pa_cons (pv 0) pa_nil))))
        pss_nil)
      (pss_one (ps_if (pt_not (pt_val (pe_cc c_apieces hr (by omega) (by rfl) (pa_cons (pv 0) (pa_cons (pv 1) pa_nil)))))
        (pss_one (ps_raise rfl (takes_of rfl rfl rfl rfl) (pmk_oexG T2 ty2 F2 (hr.mono (by omega)) hb2 .nil pass0 (by rfl) mm2 (pa_cons (pv 1) pa_nil))))
        pss_nil))), ?_⟩
    walk_at "rd"
    refine ⟨x, z, rfl, dz, ?_⟩
    have bad : z.within 0 4096 = false → Err c.S "size" z H E := fun h => by
      cases z with
      | int i =>
        have q' : (if (Tr.int i).within 0 4096 = true then (if piecesB i ts = true then Vd.ok else .err c.P "pieces" (.tup ts)) else .err c.S "size" (.int i)).run H (∀ H', Same H H' → Q .non H') E := q
        rw [if_neg (by rw [h]; exact Bool.false_ne_true)] at q'
        exact q'
      | _ => exact q
    cases hb : z.within 0 4096 with
    | false =>
      walk_at "rd"
      exact r_raise rfl dz tz (bad hb)
    | true =>
      cases dz with
      | int i =>
        have hi := within_le hb
        have q' : (if (Tr.int i).within 0 4096 = true then (if piecesB i ts = true then Vd.ok else .err c.P "pieces" (.tup ts)) else .err c.S "size" (.int i)).run H (∀ H', Same H H' → Q .non H') E := q
        rw [if_pos hb] at q'
        have h1 := tp.1
        have h2 := tp.2.1
        simp only [Tr.ok] at h1
        simp only [Tr.small, Bool.and_eq_true] at h2
        walk_at "rd"
        refine ⟨i, p, xs, ts, rfl, hp, hd, hi.2, hn, h2.2, h1, fun H1 e1 => ?_⟩
        cases hb2 : piecesB i ts with
        | true =>
          rw [if_pos hb2] at q'
          walk_at "rd"
          exact q' _ e1
        | false =>
          rw [if_neg (by rw [hb2]; exact Bool.false_ne_true)] at q'
          walk_at "rd"
          exact r_raise rfl (Dn.same e1 (.tup hp hd)) tp (Err.same e1 q')
      | _ => cases hb
def spFileX (c : Ec) (C : Addr) : Sp := fun vs H Q E => ∃ (x dx : Addr) (n y b u : V) (tn ty tb tu : Tr), vs = [.ref x, n, y, b, u] ∧ H x = some (.ins C dx []) ∧ Dn H n tn ∧ Dn H y ty ∧ Dn H b tb ∧ Dn H u tu ∧ NmOk tn ∧ TOk ty ∧ TOk tb ∧ TOk tu ∧
  (vName c tn (vData c ty (vStamp c tb tu))).run H (∀ H', Frame x H H' → Q .non H') E
theorem ok_fileX {f C : Addr} {fd : FuncData} {k : Nat} {c : Ec} (F : FunD K "__init__" "File.__init__" (defArgs s_File___init__) (defBody s_File___init__) (defScope s_File___init__) [] [("mode", .int 420), ("time", .int 0)] f fd) (hc : Cls K C)
    (a1 : NoAttr K C "name") (a2 : NoAttr K C "data") (a3 : NoAttr K C "mode") (a4 : NoAttr K C "time") (x_cname : CalX P w K mg base 9 "check_name" (spCkName c.N)) (x_cdata : CalX P w K mg base 9 "check_data" (spCkData c.D)) (x_stamp : CalX P w K mg base 9 "check_mode_and_time" (spCkStamp c.M c.T)) :
    FnOk P w K mg base (L2.CX P w) (k + 10) f fd ["self", "name", "data", "mode", "time"] (spFileX c C) := by
  refine F.ok sc_File___init__ (fun vs H Q E h => ?_) (fun cdv A outer s H vs Q E hr h => ?_)
  · obtain ⟨x, dx, n, y, b, u, tn, ty, tb, tu, rfl, _⟩ := h
    rfl
  · obtain ⟨x, dx, n, y, b, u, tn, ty, tb, tu, rfl, hx, dn, dy, db, du, on, oy, ob, ou, q⟩ := h
    have hu := hu_of hr
    have nd := sc_File___init__.nd
    refine ⟨_, (pss_cons (ps_expr (pe_cp x_cname hr (by omega) (by rfl) (passes_call (takes_of rfl rfl rfl rfl) (fun _ _ _ _ h => h)) (pa_cons (pv 1) pa_nil)))
      (pss_cons (ps_expr (pe_cp x_cdata hr (by omega) (by rfl) (passes_call (takes_of rfl rfl rfl rfl) (fun _ _ _ _ h => h)) (pa_cons (pv 2) pa_nil)))
      (pss_cons (ps_expr (pe_cp x_stamp hr (by omega) (by rfl) (passes_call (takes_of rfl rfl rfl rfl) (fun _ _ _ _ h => h)) (pa_cons (pv 3) (pa_cons (pv 4) pa_nil))))
      (pss_cons (ps_fld (pv 0) (pv 1) rfl)
      (pss_cons (ps_fld (pv 0) (pv 2) rfl)
      (pss_cons (ps_fld (pv 0) (pv 3) rfl)
      (pss_one (ps_fld (pv 0) (pv 4) rfl)))))))), ?_⟩
    walk_at "rd"
    refine ⟨n, tn, rfl, dn, on.1, on.2, fun h1 H1 e1 => ?_, fun h1 => by rw [vName_no h1] at q; exact q⟩
    rw [vName_ok h1] at q
    walk_at "rd"
    refine ⟨y, ty, rfl, Dn.same e1 dy, oy, fun h2 => ?_, fun h2 => by rw [vData_no h2] at q; exact Err.same e1 q⟩
    rw [vData_ok h2] at q
    walk_at "rd"
    refine ⟨b, u, tb, tu, rfl, Dn.same e1 db, Dn.same e1 du, ob, ou, fun h3 h4 => ?_, fun h3 => by rw [vStamp_m h3] at q; exact Err.same e1 q, fun h3 h4 => by rw [vStamp_t h3 h4] at q; exact Err.same e1 q⟩
    rw [vStamp_ok h3 h4] at q
    have hx1 := e1 _ _ hx
    walk_at "rd"
    refine q _ (fun b o nb e => ?_)
    rw [upd_ne nb, upd_ne nb, upd_ne nb, upd_ne nb]
    exact e1 _ _ e
def spDirX (c : Ec) (C : Addr) : Sp := fun vs H Q E => ∃ (x dx : Addr) (n b u : V) (tn tb tu : Tr), vs = [.ref x, n, b, u] ∧ H x = some (.ins C dx []) ∧ Dn H n tn ∧ Dn H b tb ∧ Dn H u tu ∧ NmOk tn ∧ TOk tb ∧ TOk tu ∧
  (vName c tn (vStamp c tb tu)).run H (∀ H', Frame x H H' → Q .non H') E
theorem ok_dirX {f C : Addr} {fd : FuncData} {k : Nat} {c : Ec} (F : FunD K "__init__" "Directory.__init__" (defArgs s_Directory___init__) (defBody s_Directory___init__) (defScope s_Directory___init__) [] [("mode", .int 493), ("time", .int 0)] f fd) (hc : Cls K C)
    (a1 : NoAttr K C "name") (a3 : NoAttr K C "mode") (a4 : NoAttr K C "time") (x_cname : CalX P w K mg base 9 "check_name" (spCkName c.N)) (x_stamp : CalX P w K mg base 9 "check_mode_and_time" (spCkStamp c.M c.T)) :
    FnOk P w K mg base (L2.CX P w) (k + 10) f fd ["self", "name", "mode", "time"] (spDirX c C) := by
  refine F.ok sc_Directory___init__ (fun vs H Q E h => ?_) (fun cdv A outer s H vs Q E hr h => ?_)
  · obtain ⟨x, dx, n, b, u, tn, tb, tu, rfl, _⟩ := h
    rfl
  · obtain ⟨x, dx, n, b, u, tn, tb, tu, rfl, hx, dn, db, du, on, ob, ou, q⟩ := h
    have hu := hu_of hr
    have nd := sc_Directory___init__.nd
    refine ⟨_, (pss_cons (ps_expr (pe_cp x_cname hr (by omega) (by rfl) (passes_call (takes_of rfl rfl rfl rfl) (fun _ _ _ _ h => h)) (pa_cons (pv 1) pa_nil)))
      (pss_cons (ps_expr (pe_cp x_stamp hr (by omega) (by rfl) (passes_call (takes_of rfl rfl rfl rfl) (fun _ _ _ _ h => h)) (pa_cons (pv 2) (pa_cons (pv 3) pa_nil))))
      (pss_cons (ps_fld (pv 0) (pv 1) rfl)
      (pss_cons (ps_fld (pv 0) (pv 2) rfl)
      (pss_one (ps_fld (pv 0) (pv 3) rfl)))))), ?_⟩
    walk_at "rd"
    refine ⟨n, tn, rfl, dn, on.1, on.2, fun h1 H1 e1 => ?_, fun h1 => by rw [vName_no h1] at q; exact q⟩
    rw [vName_ok h1] at q
    walk_at "rd"
    refine ⟨b, u, tb, tu, rfl, Dn.same e1 db, Dn.same e1 du, ob, ou, fun h3 h4 => ?_, fun h3 => by rw [vStamp_m h3] at q; exact Err.same e1 q, fun h3 h4 => by rw [vStamp_t h3 h4] at q; exact Err.same e1 q⟩
    rw [vStamp_ok h3 h4] at q
    have hx1 := e1 _ _ hx
    walk_at "rd"
    refine q _ (fun b o nb e => ?_)
    rw [upd_ne nb, upd_ne nb, upd_ne nb]
    exact e1 _ _ e
def spLnkX (c : Ec) (C : Addr) : Sp := fun vs H Q E => ∃ (x dx : Addr) (n g b u : V) (tn tg tb tu : Tr), vs = [.ref x, n, g, b, u] ∧ H x = some (.ins C dx []) ∧ Dn H n tn ∧ Dn H g tg ∧ Dn H b tb ∧ Dn H u tu ∧ NmOk tn ∧ NmOk tg ∧ TOk tb ∧ TOk tu ∧
  (vName c tn (vName c tg (vStamp c tb tu))).run H (∀ H', Frame x H H' → Q .non H') E
theorem ok_symX {f C : Addr} {fd : FuncData} {k : Nat} {c : Ec} (F : FunD K "__init__" "Symlink.__init__" (defArgs s_Symlink___init__) (defBody s_Symlink___init__) (defScope s_Symlink___init__) [] [("mode", .int 511), ("time", .int 0)] f fd) (hc : Cls K C)
    (a1 : NoAttr K C "name") (a2 : NoAttr K C "target") (a3 : NoAttr K C "mode") (a4 : NoAttr K C "time") (x_cname : CalX P w K mg base 9 "check_name" (spCkName c.N)) (x_stamp : CalX P w K mg base 9 "check_mode_and_time" (spCkStamp c.M c.T)) :
    FnOk P w K mg base (L2.CX P w) (k + 10) f fd ["self", "name", "target", "mode", "time"] (spLnkX c C) := by
  refine F.ok sc_Symlink___init__ (fun vs H Q E h => ?_) (fun cdv A outer s H vs Q E hr h => ?_)
  · obtain ⟨x, dx, n, g, b, u, tn, tg, tb, tu, rfl, _⟩ := h
    rfl
  · obtain ⟨x, dx, n, g, b, u, tn, tg, tb, tu, rfl, hx, dn, dg, db, du, on, og, ob, ou, q⟩ := h
    have hu := hu_of hr
    have nd := sc_Symlink___init__.nd
    refine ⟨_, (pss_cons (ps_expr (pe_cp x_cname hr (by omega) (by rfl) (passes_call (takes_of rfl rfl rfl rfl) (fun _ _ _ _ h => h)) (pa_cons (pv 1) pa_nil)))
      (pss_cons (ps_expr (pe_cp x_cname hr (by omega) (by rfl) (passes_call (takes_of rfl rfl rfl rfl) (fun _ _ _ _ h => h)) (pa_cons (pv 2) pa_nil)))
      (pss_cons (ps_expr (pe_cp x_stamp hr (by omega) (by rfl) (passes_call (takes_of rfl rfl rfl rfl) (fun _ _ _ _ h => h)) (pa_cons (pv 3) (pa_cons (pv 4) pa_nil))))
      (pss_cons (ps_fld (pv 0) (pv 1) rfl)
      (pss_cons (ps_fld (pv 0) (pv 2) rfl)
      (pss_cons (ps_fld (pv 0) (pv 3) rfl)
      (pss_one (ps_fld (pv 0) (pv 4) rfl)))))))), ?_⟩
    walk_at "rd"
    refine ⟨n, tn, rfl, dn, on.1, on.2, fun h1 H1 e1 => ?_, fun h1 => by rw [vName_no h1] at q; exact q⟩
    rw [vName_ok h1] at q
    walk_at "rd"
    refine ⟨g, tg, rfl, Dn.same e1 dg, og.1, og.2, fun h2 H2 e2 => ?_, fun h2 => by rw [vName_no h2] at q; exact Err.same e1 q⟩
    rw [vName_ok h2] at q
    walk_at "rd"
    refine ⟨b, u, tb, tu, rfl, Dn.same (e1.trans e2) db, Dn.same (e1.trans e2) du, ob, ou, fun h3 h4 => ?_, fun h3 => by rw [vStamp_m h3] at q; exact Err.same (e1.trans e2) q, fun h3 h4 => by rw [vStamp_t h3 h4] at q; exact Err.same (e1.trans e2) q⟩
    rw [vStamp_ok h3 h4] at q
    have hx1 := (e1.trans e2) _ _ hx
    walk_at "rd"
    refine q _ (fun b o nb e => ?_)
    rw [upd_ne nb, upd_ne nb, upd_ne nb, upd_ne nb]
    exact (e1.trans e2) _ _ e
theorem ok_lnkX {f C : Addr} {fd : FuncData} {k : Nat} {c : Ec} (F : FunD K "__init__" "Link.__init__" (defArgs s_Link___init__) (defBody s_Link___init__) (defScope s_Link___init__) [] [("mode", .int 420), ("time", .int 0)] f fd) (hc : Cls K C)
    (a1 : NoAttr K C "name") (a2 : NoAttr K C "target") (a3 : NoAttr K C "mode") (a4 : NoAttr K C "time") (x_cname : CalX P w K mg base 9 "check_name" (spCkName c.N)) (x_stamp : CalX P w K mg base 9 "check_mode_and_time" (spCkStamp c.M c.T)) :
    FnOk P w K mg base (L2.CX P w) (k + 10) f fd ["self", "name", "target", "mode", "time"] (spLnkX c C) := by
  refine F.ok sc_Link___init__ (fun vs H Q E h => ?_) (fun cdv A outer s H vs Q E hr h => ?_)
  · obtain ⟨x, dx, n, g, b, u, tn, tg, tb, tu, rfl, _⟩ := h
    rfl
  · obtain ⟨x, dx, n, g, b, u, tn, tg, tb, tu, rfl, hx, dn, dg, db, du, on, og, ob, ou, q⟩ := h
    have hu := hu_of hr
    have nd := sc_Link___init__.nd
    refine ⟨_, (pss_cons (ps_expr (pe_cp x_cname hr (by omega) (by rfl) (passes_call (takes_of rfl rfl rfl rfl) (fun _ _ _ _ h => h)) (pa_cons (pv 1) pa_nil)))
      (pss_cons (ps_expr (pe_cp x_cname hr (by omega) (by rfl) (passes_call (takes_of rfl rfl rfl rfl) (fun _ _ _ _ h => h)) (pa_cons (pv 2) pa_nil)))
      (pss_cons (ps_expr (pe_cp x_stamp hr (by omega) (by rfl) (passes_call (takes_of rfl rfl rfl rfl) (fun _ _ _ _ h => h)) (pa_cons (pv 3) (pa_cons (pv 4) pa_nil))))
      (pss_cons (ps_fld (pv 0) (pv 1) rfl)
      (pss_cons (ps_fld (pv 0) (pv 2) rfl)
      (pss_cons (ps_fld (pv 0) (pv 3) rfl)
      (pss_one (ps_fld (pv 0) (pv 4) rfl)))))))), ?_⟩
    walk_at "rd"
    refine ⟨n, tn, rfl, dn, on.1, on.2, fun h1 H1 e1 => ?_, fun h1 => by rw [vName_no h1] at q; exact q⟩
    rw [vName_ok h1] at q
    walk_at "rd"
    refine ⟨g, tg, rfl, Dn.same e1 dg, og.1, og.2, fun h2 H2 e2 => ?_, fun h2 => by rw [vName_no h2] at q; exact Err.same e1 q⟩
    rw [vName_ok h2] at q
    walk_at "rd"
    refine ⟨b, u, tb, tu, rfl, Dn.same (e1.trans e2) db, Dn.same (e1.trans e2) du, ob, ou, fun h3 h4 => ?_, fun h3 => by rw [vStamp_m h3] at q; exact Err.same (e1.trans e2) q, fun h3 h4 => by rw [vStamp_t h3 h4] at q; exact Err.same (e1.trans e2) q⟩
    rw [vStamp_ok h3 h4] at q
    have hx1 := (e1.trans e2) _ _ hx
    walk_at "rd"
    refine q _ (fun b o nb e => ?_)
    rw [upd_ne nb, upd_ne nb, upd_ne nb, upd_ne nb]
    exact (e1.trans e2) _ _ e
/-- Sparse.__init__ behind the binding: the rest is a tuple -/
def spSpaX (c : Ec) (C : Addr) : Sp := fun vs H Q E => ∃ (x dx p : Addr) (n z b u : V) (tn tz tb tu : Tr) (xs : List V) (ts : List Tr), vs = [.ref x, n, z, b, u, .ref p] ∧ H x = some (.ins C dx []) ∧ Dn H n tn ∧ Dn H z tz ∧ Dn H b tb ∧ Dn H u tu ∧ H p = some (.tup xs) ∧ DnA H xs ts ∧ NmOk tn ∧ TOk tz ∧ TOk tb ∧ TOk tu ∧ TOk (.tup ts) ∧ ts.length ≤ 50 ∧
  (vName c tn (vPieces c tz ts (vStamp c tb tu))).run H (∀ H', Frame x H H' → Q .non H') E
theorem vPieces_run {c : Ec} {z : Tr} {ts : List Tr} {r : Vd} {H H1 : Hp} {g g1 : Prop} {E : XK} (e : Same H H1) (q : (vPieces c z ts r).run H g E) (h : r.run H g E → g1) : (vPieces c z ts .ok).run H1 g1 E := by
  cases z with
  | int i =>
    have q' : (if (Tr.int i).within 0 4096 = true then (if piecesB i ts = true then r else .err c.P "pieces" (.tup ts)) else .err c.S "size" (.int i)).run H g E := q
    show (if (Tr.int i).within 0 4096 = true then (if piecesB i ts = true then Vd.ok else .err c.P "pieces" (.tup ts)) else .err c.S "size" (.int i)).run H1 g1 E
    by_cases h1 : (Tr.int i).within 0 4096 = true
    · rw [if_pos h1] at q' ⊢
      by_cases h2 : piecesB i ts = true
      · rw [if_pos h2] at q' ⊢
        exact h q'
      · rw [if_neg h2] at q' ⊢
        exact Err.same e q'
    · rw [if_neg h1] at q' ⊢
      exact Err.same e q'
  | _ => exact Err.same e q
theorem walk_spaX {f C : Addr} {k : Nat} {c : Ec} {cdv : Value} {A : Around} {outer : List Env} {s : Shared} {H : Hp} {vs : List V} {Q : VK} {E : XK} (hc : Cls K C)
    (a1 : NoAttr K C "name") (a2 : NoAttr K C "size") (a3 : NoAttr K C "mode") (a4 : NoAttr K C "time") (a5 : NoAttr K C "pieces") (x_cname : CalX P w K mg base 9 "check_name" (spCkName c.N)) (x_cpieces : CalX P w K mg base 9 "check_pieces" (spCkPieces c)) (x_stamp : CalX P w K mg base 9 "check_mode_and_time" (spCkStamp c.M c.T))
    (hr : Room (k + 9) (A.deeper (envOfC "Sparse.__init__" (defScope s_Sparse___init__) s.heap.objs.size f cdv))) (h : spSpaX c C vs H Q E) :
    ∃ t, PSs (cxOf (L2.CX P w) P w K mg base N_Sparse___init__ "Sparse.__init__" (defScope s_Sparse___init__) f cdv A outer s H E) (defBody s_Sparse___init__) t ∧ t { nx := fun _ H' => Q .non H', rt := Q } (L2.start N_Sparse___init__ vs) H := by
  obtain ⟨x, dx, p, n, z, b, u, tn, tz, tb, tu, xs, ts, rfl, hx, dn, dz, db, du, hp, hd, on, oz, ob, ou, ot, hl, q⟩ := h
  have hu := hu_of hr
  have nd := sc_Sparse___init__.nd
  refine ⟨_, (pss_cons (ps_expr (pe_cp x_cname hr (by omega) (by rfl) (passes_call (takes_of rfl rfl rfl rfl) (fun _ _ _ _ h => h)) (pa_cons (pv 1) pa_nil)))
      (pss_cons (ps_expr (pe_cp x_cpieces hr (by omega) (by rfl) (passes_call (takes_of rfl rfl rfl rfl) (fun _ _ _ _ h => h)) (pa_cons (pv 2) (pa_cons (pv 5) pa_nil))))
      (pss_cons (ps_expr (pe_cp x_stamp hr (by omega) (by rfl) (passes_call (takes_of rfl rfl rfl rfl) (fun _ _ _ _ h => h)) (pa_cons (pv 3) (pa_cons (pv 4) pa_nil))))
      (pss_cons (ps_fld (pv 0) (pv 1) rfl)
      (pss_cons (ps_fld (pv 0) (pv 2) rfl)
      (pss_cons (ps_fld (pv 0) (pv 5) rfl)
      (pss_cons (ps_fld (pv 0) (pv 3) rfl)
      (pss_one (ps_fld (pv 0) (pv 4) rfl))))))))), ?_⟩
  walk_at "rd"
  refine ⟨n, tn, rfl, dn, on.1, on.2, fun h1 H1 e1 => ?_, fun h1 => by rw [vName_no h1] at q; exact q⟩
  rw [vName_ok h1] at q
  walk_at "rd"
  refine ⟨z, p, tz, xs, ts, rfl, Dn.same e1 dz, e1 _ _ hp, DnA.same e1 hd, oz, ot, hl, vPieces_run e1 q fun q H2 e2 => ?_⟩
  have e12 := e1.trans e2
  walk_at "rd"
  refine ⟨b, u, tb, tu, rfl, Dn.same e12 db, Dn.same e12 du, ob, ou, fun h3 h4 => ?_, fun h3 => by rw [vStamp_m h3] at q; exact Err.same e12 q, fun h3 h4 => by rw [vStamp_t h3 h4] at q; exact Err.same e12 q⟩
  rw [vStamp_ok h3 h4] at q
  have hx1 := e12 _ _ hx
  walk_at "rd"
  refine q _ (fun b o nb e => ?_)
  rw [upd_ne nb, upd_ne nb, upd_ne nb, upd_ne nb, upd_ne nb]
  exact e12 _ _ e
end
end Th
namespace Th
open PySem PySem.Spec PyProof.Rows L2
local macro_rules | `(tactic| walk_at "lk") => `(tactic| first
  | assumption
  | exact upd_same
  | (refine upd_old (by assumption) ?_; walk_at "lk")
  | (refine upd_diff (by assumption) ?_; walk_at "lk")
  | (refine upd_diff (Ne.symm (by assumption)) ?_; walk_at "lk"))
local macro_rules | `(tactic| walk_at "cnd") => `(tactic| first
  | omega
  | (refine ⟨by omega, by omega⟩)
  | (refine ⟨by omega, by omega, by omega⟩)
  | (refine .inl ⟨by omega, by omega⟩)
  | (refine .inr ⟨by omega, by omega⟩)
  | (exact (show CPow _ _ from ⟨by decide, by decide, by omega⟩))
  | decide +kernel
  | (unfold CMulW; decide +kernel)
  | (exact wide_div (b := 64) (by omega) (by omega) (by decide) (by decide)))
local macro_rules | `(tactic| walk_at "rd1") => `(tactic| first
  | (with_reducible refine r_seq ?_)
  | (with_reducible refine r_asg ?_)
  | (with_reducible refine r_ret ?_)
  | (with_reducible refine r_if ?_)
  | (with_reducible refine r_gname ?_)
  | ((with_reducible refine' r_var ?hv ?_); (case hv => exact rfl))
  | (with_reducible refine r_c ?_)
  | (with_reducible refine r_op ?_)
  | (with_reducible refine r_I0 ?_)
  | ((with_reducible refine r_I ?hc ?_); (case hc => walk_at "cnd"))
  | (with_reducible refine r_test ?_)
  | (with_reducible refine r_tB ?_)
  | (with_reducible refine r_bl ?_)
  | (with_reducible refine r_not ?_)
  | (with_reducible refine r_and ?_)
  | (with_reducible refine r_or ?_)
  | (with_reducible refine r_ifE ?_)
  | (with_reducible refine r_notV ?_)
  | (with_reducible refine r_andV ?_)
  | (with_reducible refine r_orV ?_)
  | (with_reducible refine r_chain ?_)
  | (with_reducible refine r_cb ?_)
  | (with_reducible refine r_call ?_)
  | (with_reducible refine r_callN ?_)
  | (with_reducible refine r_nil ?_)
  | (with_reducible refine r_cons ?_)
  | ((with_reducible refine r_lst ?_))
  | ((with_reducible refine r_tup ?_))
  | ((with_reducible refine r_new ?_ ?_); (exact Nat.le_of_ble_eq_true rfl); (intro p hp))
  | (with_reducible refine r_rInt1 ?_)
  | (with_reducible refine r_rIntB ?_)
  | (with_reducible refine r_rAbs ?_)
  | (with_reducible refine r_rMin2 ?_)
  | (with_reducible refine r_rMax2 ?_)
  | ((with_reducible refine r_rLenZ ?hz ?_); (case hz => first | assumption | exact Nat.le_of_ble_eq_true rfl | (refine Nat.le_trans ?_ (by decide : 100000 ≤ sizeLine); omega)))
  | ((with_reducible refine r_addZ ?hz ?_); (case hz => (refine Nat.le_trans ?_ (by decide : 100000 ≤ sizeLine); first | omega | (simp only [Str.length] at *; simp; omega))))
  | ((with_reducible refine r_mulZ ?hz ?h0 ?h1 ?_); (case hz => first | omega | exact Nat.le_of_ble_eq_true rfl); (case h0 => omega); (case h1 => omega))
  | ((with_reducible refine' r_rLenQ ?h1 ?_); (case h1 => first | (exact .inl (by assumption)) | (exact .inr (by assumption)) | (exact .inl (SqL.of (by walk_at "lk"))) | (exact .inr (SqT.of (by walk_at "lk")))))
  | ((with_reducible refine r_eq ?hs ?_); (case hs => exact rfl))
  | ((with_reducible refine r_ne ?hs ?_); (case hs => exact rfl))
  | (with_reducible refine r_inC ?_)
  | ((with_reducible refine' r_cat ?h1 ?h2 ?h3 ?_); (case h1 => walk_at "lk"); (case h2 => walk_at "lk"); (case h3 => exact Nat.le_of_ble_eq_true rfl); (intro p hp))
  | ((with_reducible refine' r_rep ?h1 ?h2 ?h3 ?h4 ?_); (case h1 => walk_at "lk"); (case h2 => omega); (case h3 => omega); (case h4 => exact Nat.le_of_ble_eq_true rfl); (intro p hp))
  | ((with_reducible refine' r_append ?h1 ?h2 ?_); (case h1 => walk_at "lk"); (case h2 => first | exact (show _ + 1 ≤ sizeLine from Nat.le_of_ble_eq_true rfl) | exact Nat.lt_of_le_of_lt (by omega : _ ≤ 100000) (by decide)))
  | (with_reducible refine r_bm ?_)
  | ((with_reducible refine' r_tyL ?h1 ?_); (case h1 => walk_at "lk"))
  | ((with_reducible refine' r_ixL ?h1 ?h2 ?_); (case h1 => first | assumption | exact SqL.of (by walk_at "lk")); (case h2 => exact rfl))
  | ((with_reducible refine' r_ixT ?h1 ?h2 ?_); (case h1 => first | assumption | exact SqT.of (by walk_at "lk")); (case h2 => exact rfl))
  | (with_reducible refine r_gsub ?_)
  | ((with_reducible refine' r_setL ?h1 ?h2 ?_); (case h1 => walk_at "lk"); (case h2 => exact rfl))
  | (with_reducible refine r_un ?_)
  | (with_reducible refine r_neg ?_)
  | (with_reducible refine r_iteT ?_)
  | (with_reducible refine r_iteNT ?_)
  | (with_reducible refine r_iteNF ?_)
  | (with_reducible refine r_iteF ?_)
  | (with_reducible refine r_next ?_)
  | (with_reducible refine r_drop ?_)
  | (with_reducible refine r_cont ?_)
  | (with_reducible refine r_brk ?_))
local macro_rules | `(tactic| walk_at "ty") => `(tactic| first
  | assumption
  | exact .base (.int _)
  | exact .base (.str _)
  | exact .base (.bl _)
  | exact .base .non
  | exact .byt _
  | exact .base (.lst (by walk_at "lk"))
  | exact .base (.tup (by walk_at "lk")))
local macro_rules | `(tactic| walk_at "rd2") => `(tactic| first
  | walk_at "rd1"
  | ((with_reducible refine' r_isi true ?ht ?hk ?_); (case ht => walk_at "ty"); (case hk => first | assumption | decide +kernel))
  | ((with_reducible refine' r_isi false ?ht ?hk ?_); (case ht => walk_at "ty"); (case hk => first | assumption | decide +kernel))
  | ((with_reducible refine' r_isiT2 true true ?hT ?ht ?hk ?hk2 ?_); (case hT => walk_at "lk"); (case ht => walk_at "ty"); (case hk => decide +kernel); (case hk2 => decide +kernel))
  | ((with_reducible refine' r_isiT2 true false ?hT ?ht ?hk ?hk2 ?_); (case hT => walk_at "lk"); (case ht => walk_at "ty"); (case hk => decide +kernel); (case hk2 => decide +kernel))
  | ((with_reducible refine' r_isiT2 false true ?hT ?ht ?hk ?hk2 ?_); (case hT => walk_at "lk"); (case ht => walk_at "ty"); (case hk => decide +kernel); (case hk2 => decide +kernel))
  | ((with_reducible refine' r_isiT2 false false ?hT ?ht ?hk ?hk2 ?_); (case hT => walk_at "lk"); (case ht => walk_at "ty"); (case hk => decide +kernel); (case hk2 => decide +kernel))
  | (with_reducible refine r_iteNT ?_)
  | ((show (if (!true) = true then _ else _)); refine r_iteNT ?_)
  | (with_reducible refine r_r1 ?_)
  | (with_reducible refine r_maks ?_)
  | (with_reducible refine r_sfld ?_)
  | ((with_reducible refine' r_sfldE ?h1 ?h2 ?h3 ?h4 ?_); (case h1 => walk_at "lk"); (case h2 => assumption); (case h3 => assumption); (case h4 => exact (show _ + 1 ≤ 1000 from Nat.le_of_ble_eq_true rfl)))
  | (with_reducible refine r_fld ?_)
  | (with_reducible refine r_join ?_)
  | (with_reducible refine r_jcons ?_)
  | (with_reducible refine r_jnil ?_)
  | ((with_reducible refine r_rLenY ?hz ?_); (case hz => first | assumption | (refine Nat.le_trans ?_ (by decide : 100000 ≤ sizeLine); omega)))
  | (with_reducible refine r_par ?_)
  | (with_reducible refine r_pair ?_)
  | (with_reducible refine r_par3 ?_)
  | (with_reducible refine r_trip ?_)
  | ((with_reducible refine' r_gtup ?h1 ?h2 ?_); (case h1 => first | assumption | exact SqT.of (by walk_at "lk")); (case h2 => exact rfl))
  | (with_reducible refine r_gcons ?_)
  | (with_reducible refine r_gnil ?_)
  | ((with_reducible refine' r_slL ?h1 ?_); (case h1 => first | assumption | exact SqL.of (by walk_at "lk")); (intro p hp))
  | (with_reducible refine r_iTup ?_)
  | ((with_reducible refine' r_tupE ?h1 ?_); (case h1 => first | assumption | exact SqT.of (by walk_at "lk")))
  | (with_reducible refine r_m1 ?_)
  | (with_reducible refine r_isZ ?_)
  | (with_reducible refine r_sl ?_)
  | (with_reducible refine r_noPart ?_)
  | (with_reducible refine r_part ?_)
  | (with_reducible refine r_partE ?_)
  | ((with_reducible refine r_slS ?hz ?_); (case hz => first | assumption | (refine Nat.le_trans ?_ (by decide : 100000 ≤ sizeLine); omega)))
  | ((with_reducible refine' r_inT ?h1 ?h2 ?h3 ?_); (case h1 => first | assumption | (exact SqT.of (by walk_at "lk"))); (case h2 => exact rfl); (case h3 => exact rfl))
  | ((with_reducible refine' r_inL ?h1 ?h2 ?h3 ?_); (case h1 => first | assumption | (exact SqL.of (by walk_at "lk"))); (case h2 => exact rfl); (case h3 => exact rfl))
  | (with_reducible refine r_lc ?_)
  | (with_reducible refine r_for ?_)
  | (with_reducible refine r_iStr ?_)
  | (with_reducible refine r_strE ?_)
  | (with_reducible refine r_iList ?_)
  | ((with_reducible refine' r_listE ?h1 ?_); (case h1 => first | assumption | exact SqL.of (by walk_at "lk")))
  | (with_reducible refine r_iRng1 ?_)
  | ((with_reducible refine' r_rngE ?h0 ?h1 ?_); (case h0 => first | omega | (split <;> omega)); (case h1 => first | omega | (split <;> omega))))
local macro_rules | `(tactic| walk_at "rd") => `(tactic| (repeat walk_at "rd2"))
local macro_rules | `(tactic| walk_at "st") => `(tactic| (repeat (first
  | (with_reducible refine r_gname ?_)
  | (with_reducible refine r_next ?_)
  | (with_reducible refine r_seq ?_)
  | (with_reducible refine r_asg ?_)
  | (with_reducible refine r_ret ?_)
  | (with_reducible refine r_for ?_)
  | (with_reducible refine r_iRng1 ?_)
  | (with_reducible refine r_iList ?_)
  | (with_reducible refine r_cons ?_)
  | (with_reducible refine r_par ?_)
  | (with_reducible refine r_par3 ?_))))
/-! ### C(e, .., k = v, ..) that may raise -/
def FnSX (P : Program) (w : World) (K : PySem.W.Frag) (mg : Str → Option Value) (base : Heap) (k : Nat) (f : Addr) (ks : List Str) (sp : List V → List V → Hp → VK → XK → Prop) : Prop :=
  ∀ (A : Around) (outer : List Env) (s : Shared) (H : Hp) (us ws : List Value) (vs zs : List V) (Q : VK) (E : XK), Room k A → Env0 P w K mg base A outer s H → Vals vs us → Vals zs ws → ws.length = ks.length → sp vs zs H Q E →
    codeAny (model P w) A (.call (.ref f) ⟨us, ks.zip ws⟩) (CR (L2.CX P w) outer P w H s Q E) s
theorem fnSX_of {P : Program} {w : World} {K : PySem.W.Frag} {mg : Str → Option Value} {base : Heap} {k n : Nat} {f : Addr} {fd : FuncData} {ps ks : List Str} {sp : Sp} (F : FnOk P w K mg base (L2.CX P w) k f fd ps sp) (hb : KBn K fd ps n ks (fun us ws => us ++ ws) (fun us ws => us ++ ws)) :
    FnSX P w K mg base k f ks (fun vs zs H Q E => vs.length = n ∧ sp (vs ++ zs) H Q E) := by
  intro A outer s H us ws vs zs Q E hr e0 rv rz hw ⟨hn, h⟩
  have KX : K.In s.heap := e0.mod.kin.keeps fun b o e => (e0.bs b o e).1
  exact F.run A outer s H _ (us ++ ws) (vs ++ zs) Q E hr e0 (hb.to s us ws KX (by rw [← rv.length]; exact hn) hw) (hb.rel rv rz) h
structure MakX (P : Program) (w : World) (K : PySem.W.Frag) (mg : Str → Option Value) (base : Heap) (k : Nat) (x : Str) (C : Addr) (ks : List Str) (sp : List V → List V → Hp → VK → XK → Prop) : Prop where
  ex : ∃ f : Addr, Mk K C f ∧ FnSX P w K mg base k f ks sp ∧ mg x = some (.ref C)
def tMakX (sp : List V → List V → Hp → VK → XK → Prop) (m : Nat) (C : Addr) (E : XK) (t tk : TA) : TE := fun σ H Q => t σ H fun vs H1 => tk σ H1 fun zs H2 => zs.length = m ∧ ∀ x dx, H2 x = none → H2 dx = none → dx ≠ x →
  sp (.ref x :: vs) zs (upd (upd H2 dx (.own x)) x (.ins C dx [])) (fun v H3 => v = .non ∧ Q (.ref x) H3) E
theorem r_makX {sp : List V → List V → Hp → VK → XK → Prop} {m : Nat} {C : Addr} {E : XK} {t tk : TA} {σ : L2.St} {H : Hp} {Q : VK} (h : t σ H fun vs H1 => tk σ H1 fun zs H2 => zs.length = m ∧ ∀ x dx, H2 x = none → H2 dx = none → dx ≠ x →
  sp (.ref x :: vs) zs (upd (upd H2 dx (.own x)) x (.ins C dx [])) (fun v H3 => v = .non ∧ Q (.ref x) H3) E) : tMakX sp m C E t tk σ H Q := h
section
variable {X : Cx} {j k : Nat} {x : Str} {C : Addr} {ks : List Str} {sp : List V → List V → Hp → VK → XK → Prop} {E : XK} {e : Expr} {es : List Expr} {kws : List Keyword} {p pos : Pos} {t tk : TA}
theorem run_mkx {pins : List (Addr × Obj)} {σ : L2.St} {H : Hp} {s : Shared} {Q : VK} {f : Addr} {us ws : List Value} {vs zs : List V} (M : Mk X.K C f) (F : FnSX X.prog X.w X.K X.mg X.base k f ks sp) (hr : Room (k + 1) X.A) (hx : Passes (L2.CX X.prog X.w) X E)
    (I : L2.Inv X pins σ H s) (rv : Vals vs us) (rz : Vals zs ws) (hl : zs.length = ks.length)
    (h : ∀ y dx, H y = none → H dx = none → dx ≠ y → sp (.ref y :: vs) zs (upd (upd H dx (.own y)) y (.ins C dx [])) (fun v H3 => v = .non ∧ Q (.ref y) H3) E) :
    wpAny (model X.prog X.w) X.A (call (.ref C) us (ks.zip ws)) (EP X pins σ Q) X.xe s := by
  have told := h (s.heap.objs.size + 1) s.heap.objs.size (I.hok.fresh (Nat.le_succ _)) (I.hok.fresh (Nat.le_refl _)) (Nat.ne_of_lt (Nat.lt_succ_self _))
  have J := Inv.made (C := C) I
  refine wpAny_call (make_map (f := f) I.kIn M.makes M.init (beq_iff_eq.mp M.fn) (codeAny_mono (F _ X.stack _ _ (Value.ref (s.heap.objs.size + 1) :: us) ws _ zs _ E (hr.make C us (ks.zip ws)) (J.env0.make C us (ks.zip ws)) (show Vals (V.ref (s.heap.objs.size + 1) :: vs) (Value.ref (s.heap.objs.size + 1) :: us) from .cons rfl rv) rz (rz.length.symm.trans hl) told) ?_))
  intro r s' hq
  cases r with
  | error er => exact hx pins σ _ _ er s' J hq
  | ok fl =>
    cases fl with
    | ret u =>
      obtain ⟨v, H', J', rel, ev, q⟩ := J.after hq
      subst ev
      exact ⟨rel, V.ref (s.heap.objs.size + 1), H', J', rfl, q⟩
    | next => exact False.elim hq
    | brk => exact False.elim hq
    | cont => exact False.elim hq
theorem pe_mkx (c : MakX X.prog X.w X.K X.mg X.base k x C ks sp) (hr : Room j X.A) (hk : k + 1 ≤ j) (hg : Gl X x) (hx : Passes (L2.CX X.prog X.w) X E) (ha : PA X (e :: es) t) (hkw : PK X kws tk)
    (hall : (backToKw pos (keywordEach kws X.env)).all (·.1.isSome) = true := by rfl) (hks : (backToKw pos (keywordEach kws X.env)).filterMap (·.1) = ks := by rfl) (hdb : (x == ("__debug__" : Str)) = false := by decide)
    (he : starEach (e :: es) X.env = (false, eval e X.env) :: starEach es X.env := by rfl) (hpl : ((backTo pos (starEach (e :: es) X.env)).any (·.1) || (backToKw pos (keywordEach kws X.env)).any (·.1.isNone)) = false := by rfl) :
    PE X (.Call (.Name x p) (e :: es) kws pos) (tMakX sp ks.length C E t tk) := by
  obtain ⟨f, M, F, hm⟩ := c.ex
  constructor
  intro pins s σ H Q I h
  refine wpAny_Call_Name_kw (ld_glob I hg hm ?_ hdb)
  refine PySem.W.callWith_KW (h₀ := X.base) I.ok.mod.kin M.kp hall (thn (ha.run pos pins s σ H _ I h) ?_) hpl he
  rintro us s1 ⟨vs, H1, I1, r1, q1⟩
  refine thn (hkw.run pos pins s1 σ H1 _ I1 q1) ?_
  rintro ws s2 ⟨zs, H2, I2, rz, hl, q2⟩
  refine ⟨I2.kIn, ?_⟩
  rw [hks]
  exact run_mkx M F (hr.mono hk) hx I2 r1 rz hl q2
end
section
variable {P : Program} {w : World} {K : PySem.W.Frag} {mg : Str → Option Value} {base : Heap}
def spSpa (c : Ec) (C : Addr) (vs zs : List V) (H : Hp) (Q : VK) (E : XK) : Prop := ∃ (x dx : Addr) (n z b u : V) (tn tz tb tu : Tr) (xs : List V) (ts : List Tr), vs = .ref x :: n :: z :: xs ∧ zs = [b, u] ∧ H x = some (.ins C dx []) ∧ Dn H n tn ∧ Dn H z tz ∧ Dn H b tb ∧ Dn H u tu ∧ DnA H xs ts ∧ NmOk tn ∧ TOk tz ∧ TOk tb ∧ TOk tu ∧ TOk (.tup ts) ∧ ts.length ≤ 50 ∧
  (vName c tn (vPieces c tz ts (vStamp c tb tu))).run H (∀ H', Frame x H H' → Q .non H') E
theorem Vd.run_to {v : Vd} {H H1 : Hp} {g g1 : Prop} {E : XK} (e : Same H H1) (h : g → g1) (q : v.run H g E) : v.run H1 g1 E := by
  cases v with
  | ok => exact h q
  | err C f t => exact Err.same e q
theorem ok_spaK {f C : Addr} {fd : FuncData} {k : Nat} {c : Ec} (F : FunD K "__init__" "Sparse.__init__" (defArgs s_Sparse___init__) (defBody s_Sparse___init__) (defScope s_Sparse___init__) [] [("mode", .int 420), ("time", .int 0)] f fd) (hc : Cls K C)
    (a1 : NoAttr K C "name") (a2 : NoAttr K C "size") (a3 : NoAttr K C "mode") (a4 : NoAttr K C "time") (a5 : NoAttr K C "pieces") (x_cname : CalX P w K mg base 9 "check_name" (spCkName c.N)) (x_cpieces : CalX P w K mg base 9 "check_pieces" (spCkPieces c)) (x_stamp : CalX P w K mg base 9 "check_mode_and_time" (spCkStamp c.M c.T)) :
    FnSX P w K mg base (k + 10) f ["mode", "time"] (spSpa c C) := by
  obtain ⟨oc, od, dV, kV, doc, pm, an, cdv, ct, osl, rfl, lk, hcd, hD, hK⟩ := F.ex
  have hdV : dV = .none := by
    rcases hD with ⟨_, e⟩ | ⟨e, _⟩
    · exact e
    · exact absurd rfl e
  subst hdV
  intro A outer s H us ws vs zs Q E hr e0 rv rz hw ⟨x, dx, n, z, b, u, tn, tz, tb, tu, xs, ts, ev, ez, hx, dn, dz, db, du, hd, on, oz, ob, ou, ot, hl, q⟩
  subst ev ez
  obtain ⟨ub, ut, rfl, rb, rt⟩ : ∃ ub ut, ws = [ub, ut] ∧ RelV b ub ∧ RelV u ut := by
    cases rz with
    | cons rb rz => cases rz with
      | cons rt rz => cases rz with
        | nil => exact ⟨_, _, rfl, rb, rt⟩
  obtain ⟨ux, un, uz, ur, rfl, r1, r2, r3, r4⟩ : ∃ ux un uz ur, us = ux :: un :: uz :: ur ∧ RelV (.ref x) ux ∧ RelV n un ∧ RelV z uz ∧ Vals xs ur := by
    cases rv with
    | cons r1 rv => cases rv with
      | cons r2 rv => cases rv with
        | cons r3 rv => exact ⟨_, _, _, _, rfl, r1, r2, r3, rv⟩
  have hsz : xs.length ≤ sizeLine := by rw [hd.len]; exact Nat.le_trans hl (by decide)
  have hus : ur.length ≤ sizeLine := by rw [← r4.length]; exact hsz
  have free : H s.heap.objs.size = none := e0.hok.fresh (Nat.le_refl _)
  refine StX.run_bnd lk hcd sc_Sparse___init__ hr e0 (G := fun ys H2 => ∃ p, H p = none ∧ ys = [.ref x, n, z, b, u, .ref p] ∧ H2 = upd H p (.tup xs)) ?_ ?_
  · intro A' Ex Q' hq
    have laid : ObjOk P w (upd H s.heap.objs.size (.tup xs)) (s.heap.push { cls := .type "tuple", data := .seq ur.toArray }) s.heap.objs.size (.tup xs) :=
      ⟨hsz, ur, r4, _, Heap.get?_push_size _ rfl, rfl, _, rfl⟩
    have go : wpAny (model P w) A' (newTuple ur >>= fun tp => pure ([("self", ux), ("name", un), ("size", uz), ("mode", ub), ("time", ut), ("pieces", tp)] : List (Str × Value))) Q' Ex s :=
      wpAny_bind (wpAny_newTuple (wpAny_pure (hq _ (upd H s.heap.objs.size (.tup xs)) [.ref x, n, z, b, u, .ref s.heap.objs.size] [ux, un, uz, ub, ut, .ref s.heap.objs.size] (StX.env0_laid e0 laid) (StX.un_laid free) rfl
        (fun e s' z => StX.cxUp outer s H { s with heap := s.heap.push { cls := .type "tuple", data := .seq ur.toArray } } (upd H s.heap.objs.size (.tup xs)) E e s' (StX.un_laid free) (fun b o e => Heap.get?_push_of_some _ e) rfl z)
        (.cons r1 (.cons r2 (.cons r3 (.cons rb (.cons rt (.cons rfl .nil)))))) rfl ⟨_, free, rfl, rfl⟩)) hus)
    cases ur with
    | nil => exact go
    | cons r rs => exact go
  · rintro s2 H2 ys ⟨p, hp, rfl, rfl⟩ hr'
    have e1 : Same H (upd H p (.tup xs)) := same_new hp
    have np : x ≠ p := ne_of_none hx hp
    exact walk_spaX (k := k) (Q := Q) hc a1 a2 a3 a4 a5 x_cname x_cpieces x_stamp hr' (vs := [.ref x, n, z, b, u, .ref p]) (H := upd H p (.tup xs))
      ⟨x, dx, p, n, z, b, u, tn, tz, tb, tu, xs, ts, rfl, e1 _ _ hx, Dn.same e1 dn, Dn.same e1 dz, Dn.same e1 db, Dn.same e1 du, upd_same, DnA.same e1 hd, on, oz, ob, ou, ot, hl, Vd.run_to e1 (fun g H' fr => g H' fun b o nb e => fr b o nb (e1 _ _ e)) q⟩
end
end Th
/-! lambdas without parameters as values: made, kept, handed to a def that calls them -/
namespace Th
open PySem PySem.Spec PyProof.Rows L2
open LamX (CodeO Tabs TabS ExtN TabB LamS lamEnv lamCx)
/-- the object at f is a lambda of this text, over these cells -/
def LamO (q : Str) (ps : Arguments) (bd : Expr) (sc : Scope) (cl : List (Str × Addr)) (cc f : Addr) : HO := .ext fun hp => ∃ pv tv : Value, hp.get? f = some (PySem.W.kla_obj "<lambda>" q ps bd sc cl pv cc tv)
theorem lamO_ok {P : Program} {w : World} {H : Hp} {hp : Heap} {q : Str} {ps : Arguments} {bd : Expr} {sc : Scope} {cl : List (Str × Addr)} {cc f : Addr} {pv tv : Value} (e : hp.get? f = some (PySem.W.kla_obj "<lambda>" q ps bd sc cl pv cc tv)) : ObjOk P w H hp f (LamO q ps bd sc cl cc f) :=
  ⟨⟨pv, tv, e⟩, ⟨_, e⟩, fun h1 h2 ⟨a, b, z⟩ st => ⟨a, b, st _ z⟩⟩
/-- lambda: e, as a value -/
def tLamV (T : List (Addr × Str)) (q : Str) (ps : Arguments) (bd : Expr) (sc : Scope) (cl : List (Str × Addr)) : TE := fun σ H Q => Tabs T H ∧ ∀ (f cc : Addr) (H1 : Hp), ExtN H H1 → Tabs T H1 → H1 f = none → H1 cc = some (CodeO cc q) → Q (.ref f) (upd H1 f (LamO q ps bd sc cl cc f))
section
variable {X : Cx}
theorem pe_lamV {T : List (Addr × Str)} {cA PA : Addr} {ps : Arguments} {bd : Expr} {sc : Scope} {at_ : Pos} (TB : TabB X.base X.mg cA PA) (code : X.env.code = .ref cA) (inT : (PA, X.env.qual ++ "<lambda>") ∈ T) (one : ∀ p ∈ T, p.1 = PA → p.2 = X.env.qual ++ "<lambda>")
    (LS : LamS X.env.scope sc) (dfl : defaultsOf ps X.env = ([], [])) : PE X (.Lambda ps bd sc at_) (tLamV T (X.env.qual ++ "<lambda>") ps bd sc (cloFrom X.env.cells sc.names [])) := by
  constructor
  intro pins s σ H Q I told
  obtain ⟨tabs, told⟩ := told
  obtain ⟨row, rowP, trip, known⟩ := tabs _ inT
  apply PySem.W.kla_eval dfl
  have builtins := TB.bm.keeps I.bk
  have rowHere : s.heap.get? PA = some { cls := .none, data := .fields row } := I.hok PA _ rowP
  cases found : codeAmong at_ row.toList with
  | some cv =>
    obtain ⟨cc, rfl, ccO⟩ := known at_ cv found
    apply PySem.W.kla_makeFunctionHit (mg := X.mg) (c := cA) (P := PA) (ps := row) (L2.closure_ok (LS.has I.ok)) I.ok.glob (I.mod.glob.keeps I.bk) code (TB.code.keeps I.bk) rowHere trip found builtins
    intro tv hp tk more size
    have here := Heap.get?_push_size hp (o := PySem.W.kla_obj "<lambda>" (X.env.qual ++ "<lambda>") ps bd sc (cloFrom X.env.cells sc.names []) ((X.mg "__name__").getD .none) cc tv) rfl
    have J := I.laid (t' := tk) (a := hp.objs.size) (o := LamO (X.env.qual ++ "<lambda>") ps bd sc (cloFrom X.env.cells sc.names []) cc hp.objs.size)
      (h' := hp.push (PySem.W.kla_obj "<lambda>" (X.env.qual ++ "<lambda>") ps bd sc (cloFrom X.env.cells sc.names []) ((X.mg "__name__").getD .none) cc tv)) (fun b u e => Heap.get?_push_of_some _ (more b u e)) size (lamO_ok here)
    exact ⟨.ref _, _, J, (rfl : Value.ref _ = Value.ref _), told _ cc H (ExtN.refl H) tabs (I.hok.fresh size) ccO⟩
  | none =>
    apply PySem.W.kla_makeFunction (mg := X.mg) (c := cA) (P := PA) (ps := row) (L2.closure_ok (LS.has I.ok)) I.ok.glob (I.mod.glob.keeps I.bk) code (TB.code.keeps I.bk) rowHere trip found TB.gP builtins
    intro cc tv hp tk ext low high rec_ rowNew
    obtain ⟨c2, co, vals, tok, same, coAt, coDat, coName⟩ := rec_
    cases same
    have new : H cc = none := I.hok.fresh low
    have J := LamX.inv_table (t' := s.toks) (more := #[rawInt at_.line, rawInt at_.col, .ref cc]) (q := X.env.qual ++ "<lambda>") (h' := hp) I rowP (fun b u n e => ext b u n e) rowNew low ⟨co, vals, tok, coAt, coDat, coName⟩
    have size : s.heap.objs.size ≤ hp.objs.size := Nat.le_trans low (Nat.le_of_lt high)
    have here := Heap.get?_push_size hp (o := PySem.W.kla_obj "<lambda>" (X.env.qual ++ "<lambda>") ps bd sc (cloFrom X.env.cells sc.names []) ((X.mg "__name__").getD .none) cc tv) rfl
    have J2 := J.laid (t' := tk) (a := hp.objs.size) (o := LamO (X.env.qual ++ "<lambda>") ps bd sc (cloFrom X.env.cells sc.names []) cc hp.objs.size)
      (h' := hp.push (PySem.W.kla_obj "<lambda>" (X.env.qual ++ "<lambda>") ps bd sc (cloFrom X.env.cells sc.names []) ((X.mg "__name__").getD .none) cc tv)) (fun b u e => Heap.get?_push_of_some _ e) (Nat.le_refl _) (lamO_ok here)
    have stays : ExtN H (upd (upd H PA (.tbl (row ++ #[rawInt at_.line, rawInt at_.col, .ref cc]))) cc (CodeO cc (X.env.qual ++ "<lambda>"))) := fun b u e no => by
      have n1 := ne_of_none e new
      have n2 : b ≠ PA := fun z => by
        subst z
        rw [rowP] at e
        exact no row (Option.some.inj e).symm
      rw [upd_ne n1, upd_ne n2]
      exact e
    have listed : (row ++ #[rawInt at_.line, rawInt at_.col, .ref cc]).toList = row.toList ++ [rawInt at_.line, rawInt at_.col, .ref cc] := by simp
    refine ⟨.ref _, _, J2, (rfl : Value.ref _ = Value.ref _), told _ cc _ stays (fun p pin => ?_) ?_ upd_same⟩
    · by_cases eP : p.1 = PA
      · rw [one p pin eP, eP]
        refine ⟨_, (upd_ne (ne_of_none rowP new)).trans upd_same, ?_, ?_⟩
        · rw [listed]
          exact PySem.TriplesOk_snoc _ _ _ _ trip
        · intro p' cv hit
          rw [listed] at hit
          cases LamX.among_app _ trip hit with
          | inl old =>
            obtain ⟨c0, z1, z2⟩ := known p' cv old
            exact ⟨c0, z1, stays _ _ z2 LamX.codeO_ne⟩
          | inr z => exact ⟨cc, z, upd_same⟩
      · obtain ⟨row2, z1, z2, z3⟩ := tabs p pin
        refine ⟨row2, (upd_ne (ne_of_none z1 new)).trans ((upd_ne eP).trans z1), z2, ?_⟩
        intro p' cv hit
        obtain ⟨c0, y1, y2⟩ := z3 p' cv hit
        exact ⟨c0, y1, stays _ _ y2 LamX.codeO_ne⟩
    · exact J.hok.fresh (Nat.le_refl _)
end
/-! ### the maker's cells, as they stand at a later state -/
/-- the maker's cells hold what its slots say; nothing tracks them -/
structure CellsAt (X : Cx) (σ : L2.St) (H : Hp) (hp : Heap) : Prop where
  ok : X.Ok
  len : σ.length = X.N.length
  is : ∀ y c, X.env.cells.lookup y = some c → H c = none ∧ ∃ v, hp.IsCell c v
  val : ∀ (i : Nat) (y : Str) (v : V) (c : Addr), X.N[i]? = some y → σ[i]? = some (some v) → (X.env.scope.names.lookup y = some .cell ∨ X.env.scope.names.lookup y = some .free) → X.env.cells.lookup y = some c → ∃ u, RelV v u ∧ hp.IsCell c (some u)
section
variable {X : Cx} {pins : List (Addr × Obj)} {σ : L2.St} {H : Hp} {s : Shared}
theorem CellsAt.of (I : Inv X pins σ H s) : CellsAt X σ H s.heap := by
  refine ⟨I.ok, I.len, fun y c e => ⟨I.freeC y c e, I.cell y c e⟩, fun i y v c e1 e2 e3 e4 => ?_⟩
  obtain ⟨m, _, all⟩ := I.loc
  obtain ⟨u, r, q⟩ := all i y v e1 e2 (e3.elim (fun k => .inr (.inl k)) (fun k => .inr (.inr k)))
  rcases q with ⟨k, _⟩ | ⟨_, c2, e5, z⟩
  · have k : X.env.scope.names.lookup y = some .local := k
    rcases e3 with e3 | e3 <;> rw [e3] at k <;> cases k
  · rw [e4] at e5
    cases e5
    exact ⟨u, r, z⟩
theorem CellsAt.later {fs ex : List Addr} {G : Hp} {h2 : Heap} {hp : Heap} (C : CellsAt X σ H hp) (un : Un fs ex H G hp h2) (off : ∀ y c, X.env.cells.lookup y = some c → c ∉ ex) : CellsAt X σ G h2 := by
  have stays : ∀ y c v, X.env.cells.lookup y = some c → hp.IsCell c v → h2.IsCell c v := fun y c v e ⟨o, ho, hd⟩ => by
    obtain ⟨sl, q⟩ := un.any ho (C.is y c e).1 (off y c e)
    exact ⟨_, q, hd⟩
  refine ⟨C.ok, C.len, fun y c e => ?_, fun i y v c e1 e2 e3 e4 => ?_⟩
  · obtain ⟨n, v, z⟩ := C.is y c e
    obtain ⟨o, ho, hd⟩ := z
    exact ⟨un.free c o ho n (off y c e), v, stays y c v e ⟨o, ho, hd⟩⟩
  · obtain ⟨u, r, z⟩ := C.val i y v c e1 e2 e3 e4
    exact ⟨u, r, stays y c _ e4 z⟩
/-- the lambda's body is entered -/
theorem lam_enter {A : Around} {outer : List Env} {E : XK} {sc : Scope} {f cc : Addr} {h1 : Heap} {tk : Nat} (LS : LamS X.env.scope sc) (C : CellsAt X σ H s.heap) (e0 : Env0 X.prog X.w X.K X.mg X.base A outer s H) (calm : A.handled = none)
    (isNs : h1.Ns s.heap.objs.size fun y => ([] : List (Str × Value)).reverse.lookup y) (more : ∀ b o, s.heap.get? b = some o → h1.get? b = some o) : Inv (lamCx X A outer s H E sc f cc) [] σ H { s with heap := h1, toks := tk } := by
  have stays : ∀ c v, s.heap.IsCell c v → h1.IsCell c v := fun c v ⟨o, ho, hd⟩ => ⟨o, more _ _ ho, hd⟩
  have back : ∀ {y c}, (cloFrom X.env.cells sc.names []).lookup y = some c → X.env.cells.lookup y = some c := fun {y c} e => by
    rcases cloFrom_mem (PySem.mem_of_lookup e) with bad | ⟨isFree, same⟩
    · cases bad
    · obtain ⟨c1, hc⟩ := LS.has C.ok _ isFree rfl
      have hc : X.env.cells.lookup y = some c1 := hc
      have e2 : c = c1 := by rw [same, hc] <;> rfl
      rw [e2]
      exact hc
  have forth : ∀ {y}, sc.names.lookup y = some .free → ∃ c, (cloFrom X.env.cells sc.names []).lookup y = some c := fun {y} hl => by
    have isIn : (y, NameKind.free) ∈ sc.names := PySem.mem_of_lookup hl
    exact mem_lookup (cloFrom_has (cells := X.env.cells) (acc := []) isIn)
  have noEx : ∀ b : Addr, b ∉ (lamCx X A outer s H E sc f cc).ex := fun b z => by
    have z : b ∈ ([] : List Addr) := z
    cases z
  have ok : (lamCx X A outer s H E sc f cc).Ok :=
    { mod := e0.mod, kind := LS.kind, glob := rfl, blt := rfl, above := Nat.le_refl _, inj := fun y z c e1 e2 => C.ok.inj y z c (back e1) (back e2)
      has := fun y hy => by
        have hy : sc.names.lookup y = some .cell ∨ sc.names.lookup y = some .free := hy
        rcases hy with hy | hy
        · exact absurd rfl (LS.own _ (PySem.mem_of_lookup hy)).2
        · exact forth hy
      cab := fun y c z _ => by
        have z : false = true := z
        cases z
      hd := fun _ => calm, frames := Around.frames_deeper e0.frames, stk := .inr ⟨rfl, rfl⟩, exf := fun b z => absurd z (noEx b), bs := e0.bs, bsz := e0.bsz, noex := fun b _ _ => noEx b, exfs := fun b z => absurd z (noEx b), funs := e0.funs, frf := e0.frf }
  refine ⟨ok, rfl, e0.bare, Un.kept more, ⟨_, isNs, fun i y v e1 e2 e3 => ?_⟩, fun y c e => ?_, e0.hok.fresh (Nat.le_refl _), fun y c e => (C.is y c (back e)).1, fun q hq => ?_, e0.hok.kept more, C.len⟩
  · have e3 : Vis sc y := e3
    rcases e3 with k | k | k
    · exact absurd rfl (LS.own _ (PySem.mem_of_lookup k)).1
    · exact absurd rfl (LS.own _ (PySem.mem_of_lookup k)).2
    · obtain ⟨c, hc⟩ := forth k
      obtain ⟨u, r, z⟩ := C.val i y v c e1 e2 (LS.free _ (PySem.mem_of_lookup k) rfl) (back hc)
      exact ⟨u, r, .inr ⟨.inr k, c, hc, stays _ _ z⟩⟩
  · obtain ⟨v, z⟩ := (C.is y c (back e)).2
    exact ⟨v, stays _ _ z⟩
  · have hq : q ∈ ([] : List (Addr × Obj)) ++ [] := hq
    simp at hq
end
/-! ### the call of such a lambda, by its name, in the def that got it -/
section
variable {M : Cx} {ms : L2.St} {A0 : Around} {outer0 : List Env} {H : Hp} {s : Shared}
theorem pe_actT {CXg : CXT} {Eg : XK} {Ng : List Str} {qg : Str} {sg : Scope} {g f cc : Addr} {cdg : Value} {ps : Arguments} {bd : Expr} {sc : Scope} {k i : Nat} {a : Str} {pn : List (Addr × Obj)} {xe : Value → Shared → Prop} {W : WX} {t : XK → TE} {p1 p2 : Pos}
    (C0 : CellsAt M ms H s.heap) (LS : LamS M.env.scope sc)
    (binds : ∀ (q : Str) (cl : List (Str × Addr)) (pv cv tv : Value), bindArgs (PySem.W.kla_fn "<lambda>" q ps bd sc cl pv cv tv) ⟨[], []⟩ = pure [])
    (tk : Takes ((cxOf CXg M.prog M.w M.K M.mg M.base Ng qg sg g cdg A0 outer0 s H Eg).tr pn xe) W) (room : Room (k + 1) (A0.deeper (envOfC qg sg s.heap.objs.size g cdg)))
    (inside : ∀ (A : Around) (outer : List Env) (s : Shared) (H : Hp) (E : XK), Room k (A.deeper (lamEnv M sc s.heap.objs.size f cc)) → A.guards = A0.guards → PE (lamCx M A outer s H E sc f cc) bd (t E))
    (slot : Ng[i]? = some a) (vis : Vis sg a) (hd : (a == ("__debug__" : Str)) = false := by decide) (hcd : (a == ("__classdict__" : Str)) = false := by decide) :
    PE ((cxOf CXg M.prog M.w M.K M.mg M.base Ng qg sg g cdg A0 outer0 s H Eg).tr pn xe) (.Call (.Name a p1) [] [] p2)
      (fun τ G Q => τ[i]? = some (some (.ref f)) ∧ G f = some (LamO (M.env.qual ++ "<lambda>") ps bd sc (cloFrom M.env.cells sc.names []) cc f) ∧ G cc = some (CodeO cc (M.env.qual ++ "<lambda>")) ∧ t (fun kl d G' => W kl d τ G') ms G Q) := by
  constructor
  intro pz sz τ G Q IZ told
  obtain ⟨isF, isL, isC, told⟩ := told
  refine wpAny_Call_Name_kw (thn ((pe_var (pos := p1) (i := i) slot vis hd hcd).run pz sz τ G (fun v G1 => v = .ref f ∧ G1 = G) IZ ⟨.ref f, isF, rfl, rfl⟩) fun u s1 got => ?_)
  obtain ⟨v, G1, J, rel, rfl, rfl⟩ := got
  obtain rfl : u = Value.ref f := rel
  obtain ⟨⟨pv, tv, fAt⟩, _, _⟩ := J.hok f _ isL
  obtain ⟨⟨co, vals, tok, coAt, coDat, coName⟩, _, _⟩ := J.hok cc _ isC
  refine PySem.W.callWith_F0 ⟨_, _, _, _, fAt⟩ ?_
  have C1 : CellsAt M ms G1 s1.heap := C0.later J.base (fun _ _ _ z => by cases z)
  have ran : codeAny (model M.prog M.w) (A0.deeper (envOfC qg sg s.heap.objs.size g cdg)) (.call (.ref f) ⟨[], []⟩) (CR (L2.CX M.prog M.w) (envOfC qg sg s.heap.objs.size g cdg :: outer0) M.prog M.w G1 s1 Q fun kl d G' => W kl d τ G') s1 := by
    refine PySem.W.kla_callFunE room.depth fAt rfl LS.co LS.gen rfl ⟨cc, co, vals, tok, rfl, coAt, coDat, coName⟩ ?_
    rw [binds]
    refine wpAny_pure (wpAny_newFunctionEnv (fun y hy => (LS.own y hy).2) (fun y hy => absurd hy (by simp)) (fun hp isNs subBut => ?_) LS.kind)
    refine ⟨J.nolimit.fresh _ subBut, ?_⟩
    have more : ∀ b o, s1.heap.get? b = some o → hp.get? b = some o := fun b o e => subBut.extBut b o (Nat.ne_of_lt (Heap.lt_size e)) (Heap.get?_push_of_some _ e)
    have start_ := lam_enter (E := fun kl d G' => W kl d τ G') (f := f) (cc := cc) (tk := s1.toks + ([] : List (Str × Value)).length) LS C1 J.env0 room.hd isNs more
    refine PySem.W.kla_codeExpr (wpAny_mono ((inside _ _ s1 G1 _ (room.deeper _) rfl).run [] _ _ G1 Q start_ told) (fun v s' done => ?_) fun e s' done => done)
    obtain ⟨w', G', J', rv, q⟩ := done
    exact ⟨w', G', J'.os, J'.bare, J'.base, J'.hok, rv, q⟩
  refine wpAny_call (codeAny_mono ran ?_)
  intro r s' done
  cases r with
  | error e => exact passAt tk τ pz G1 s1 e s' J done
  | ok fl =>
    cases fl with
    | ret u => exact J.after done
    | next => cases done
    | brk => cases done
    | cont => cases done
end
/-! ### a def that gets a lambda and calls it: TT tells what it makes of the lambda's reading -/
/-- the context of such a def's body -/
abbrev zCx (P : Program) (w : World) (K : PySem.W.Frag) (mg : Str → Option Value) (base : Heap) (Ng : List Str) (x : Str) (sg : Scope) (g : Addr) (cdg : Value) (A : Around) (outer : List Env) (s : Shared) (H : Hp) : Cx := cxOf C8.CX0 P w K mg base Ng x sg g cdg A outer s H C8.E0
structure CalL (P : Program) (w : World) (K : PySem.W.Frag) (mg : Str → Option Value) (base : Heap) (k : Nat) (x : Str) (TT : (XK → Hp → VK → Prop) → Hp → VK → Prop) : Prop where
  ex : ∃ (g : Addr) (pg : Arguments) (bg : List Stmt) (sg : Scope) (dV kV doc pm cdg ct oc : Value) (an od : Option Addr) (osl : Array (Option Value)) (Ng : List Str) (a : Str), mg x = some (.ref g) ∧ PySem.W.keepIn K (.ref g) = true ∧
    K.lookup g = some ⟨oc, od, .func (PySem.W.fnOf x x pg bg sg dV kV doc pm an cdg ct), osl⟩ ∧ PySem.W.codeIn K cdg x = true ∧ L2.Binds K (PySem.W.fnOf x x pg bg sg dV kV doc pm an cdg ct) [a] [] ∧ FnScope Ng [a] sg ∧ Ng[0]? = some a ∧ Vis sg a ∧ (a == ("__debug__" : Str)) = false ∧ (a == ("__classdict__" : Str)) = false ∧
    ∀ (A : Around) (outer : List Env) (s : Shared) (H : Hp) (f cc : Addr) (q : Str) (O : HO) (Q : VK) (tl : XK → Hp → VK → Prop), A.guards = some [] → Room k (A.deeper (envOfC x sg s.heap.objs.size g cdg)) →
      (∀ (W : WX) (pn : List (Addr × Obj)) (xe : Value → Shared → Prop) (p1 p2 : Pos), Takes ((zCx P w K mg base Ng x sg g cdg A outer s H).tr pn xe) W →
        PE ((zCx P w K mg base Ng x sg g cdg A outer s H).tr pn xe) (.Call (.Name a p1) [] [] p2) (fun τ G Q => τ[0]? = some (some (.ref f)) ∧ G f = some O ∧ G cc = some (CodeO cc q) ∧ tl (fun kl d G' => W kl d τ G') G Q)) →
      H f = some O → H cc = some (CodeO cc q) → TT tl H Q → ∃ t, PSs (zCx P w K mg base Ng x sg g cdg A outer s H).nox bg t ∧ t { nx := fun _ H' => Q .non H', rt := Q } (L2.start Ng [.ref f]) H
/-- x(e), e a lambda of this text -/
def tCallT (te : TE) (q : Str) (ps : Arguments) (bd : Expr) (sc : Scope) (cl : List (Str × Addr)) (TT : (XK → Hp → VK → Prop) → Hp → VK → Prop) (t : XK → TE) : TE := fun σ H Q =>
  te σ H fun v H1 => ∃ f cc : Addr, v = .ref f ∧ H1 f = some (LamO q ps bd sc cl cc f) ∧ H1 cc = some (CodeO cc q) ∧ TT (fun E G Q' => t E σ G Q') H1 Q
section
variable {X : Cx}
theorem pe_callT {te : TE} {TT : (XK → Hp → VK → Prop) → Hp → VK → Prop} {x : Str} {k k2 j : Nat} {e : Expr} {ps : Arguments} {bd : Expr} {sc : Scope} {t : XK → TE} {p pos : Pos} (c : CalL X.prog X.w X.K X.mg X.base k x TT) (hr : Room j X.A) (hk : k + 1 ≤ j) (hk2 : k2 + 1 ≤ k) (gd : X.A.guards = some []) (hg : Gl X x) (he : PE X e te)
    (LS : LamS X.env.scope sc) (binds : ∀ (q : Str) (cl : List (Str × Addr)) (pv cv tv : Value), bindArgs (PySem.W.kla_fn "<lambda>" q ps bd sc cl pv cv tv) ⟨[], []⟩ = pure [])
    (inside : ∀ (A : Around) (outer : List Env) (s : Shared) (H : Hp) (E : XK) (f cc : Addr), Room k2 (A.deeper (lamEnv X sc s.heap.objs.size f cc)) → A.guards = some [] → PE (lamCx X A outer s H E sc f cc) bd (t E))
    (hdb : (x == ("__debug__" : Str)) = false := by decide) (hst : starEach [e] X.env = (false, eval e X.env) :: starEach [] X.env := by rfl) (hpl : (backTo pos (starEach [] X.env)).any (·.1) = false := by rfl) :
    PE X (.Call (.Name x p) [e] [] pos) (tCallT te (X.env.qual ++ "<lambda>") ps bd sc (cloFrom X.env.cells sc.names []) TT t) := by
  obtain ⟨g, pg, bg, sg, dV, kV, doc, pm, cdg, ct, oc, an, od, osl, Ng, a, mgx, kept, atg, code, gets, S, slot, vis, n1, n2, gives⟩ := c.ex
  constructor
  intro pins s σ H Q I told
  refine wpAny_Call_Name_kw (ld_glob I hg mgx ?_ hdb)
  refine PySem.W.callWith_K (h₀ := X.base) I.ok.mod.kin kept (thn ((pa_cons he pa_nil hst).run pos pins s σ H (fun vs H1 => match vs with
    | [v] => ∃ f cc : Addr, v = .ref f ∧ H1 f = some (LamO (X.env.qual ++ "<lambda>") ps bd sc (cloFrom X.env.cells sc.names []) cc f) ∧ H1 cc = some (CodeO cc (X.env.qual ++ "<lambda>")) ∧ TT (fun E G Q' => t E σ G Q') H1 Q
    | _ => False) I told) fun us s1 got => ?_) hst hpl
  obtain ⟨vs, H1, J, rel, got⟩ := got
  refine ⟨J.kIn, ?_⟩
  match vs, us, rel, got with
  | [v], [u], .cons r1 .nil, ⟨f, cc, ev, isL, isC, wish⟩ =>
    subst ev
    have ran : codeAny (model X.prog X.w) X.A (.call (.ref g) ⟨[.ref f], []⟩) (CR C8.CX0 X.stack X.prog X.w H1 s1 Q C8.E0) s1 := by
      refine LamX.run_ofS (N := Ng) (ps := [a]) (us := [.ref f]) (vs := [.ref f]) atg code S (hr.mono hk) J.env0 (gets s1 [.ref f] J.kIn rfl) (.cons rfl .nil) rfl fun room => ?_
      obtain ⟨t', d', q'⟩ := gives X.A X.stack s1 H1 f cc (X.env.qual ++ "<lambda>") _ Q _ gd room (fun W pn xe p1 p2 tk => pe_actT (k := k2) (i := 0) (CellsAt.of J) LS binds tk (room.mono hk2) (fun A outer s H E h1 h3 => inside A outer s H E f cc h1 (h3.trans gd)) slot vis n1 n2) isL isC wish
      exact ⟨t', d'.nox, q'⟩
    obtain rfl : u = Value.ref f := r1
    refine wpAny_call (codeAny_mono ran ?_)
    intro r s' done
    cases r with
    | error e => exact (show False from done).elim
    | ok fl =>
      cases fl with
      | ret u => exact J.after done
      | next => cases done
      | brk => cases done
      | cont => cases done
/-- the same in a comprehension's block: the lambda was made in the def around, whose slots were ms when the block began -/
theorem pe_callTB {ms : L2.St} {s3 : Shared} {H3 : Hp} {bsc : Scope} {ce : Env} {fp : List Addr} (C0 : CellsAt X ms H3 s3.heap) (off : ∀ y c, X.env.cells.lookup y = some c → c ∉ fp) {te : TE} {TT : (XK → Hp → VK → Prop) → Hp → VK → Prop} {x : Str} {k k2 j : Nat} {e : Expr} {ps : Arguments} {bd : Expr} {sc : Scope} {t : XK → TE} {p pos : Pos} (c : CalL X.prog X.w X.K X.mg X.base k x TT) (hr : Room j X.A) (hk : k + 1 ≤ j) (hk2 : k2 + 1 ≤ k) (gd : X.A.guards = some []) (hg : Gl (X.blk s3 H3 bsc ce fp) x) (he : PE (X.blk s3 H3 bsc ce fp) e te)
    (LS : LamS X.env.scope sc) (binds : ∀ (q : Str) (cl : List (Str × Addr)) (pv cv tv : Value), bindArgs (PySem.W.kla_fn "<lambda>" q ps bd sc cl pv cv tv) ⟨[], []⟩ = pure [])
    (inside : ∀ (A : Around) (outer : List Env) (s : Shared) (H : Hp) (E : XK) (f cc : Addr), Room k2 (A.deeper (lamEnv X sc s.heap.objs.size f cc)) → A.guards = some [] → PE (lamCx X A outer s H E sc f cc) bd (t E))
    (hdb : (x == ("__debug__" : Str)) = false := by decide) (hst : starEach [e] ce = (false, eval e ce) :: starEach [] ce := by rfl) (hpl : (backTo pos (starEach [] ce)).any (·.1) = false := by rfl) :
    PE (X.blk s3 H3 bsc ce fp) (.Call (.Name x p) [e] [] pos) (tCallT te (X.env.qual ++ "<lambda>") ps bd sc (cloFrom X.env.cells sc.names []) TT fun E _ => t E ms) := by
  obtain ⟨g, pg, bg, sg, dV, kV, doc, pm, cdg, ct, oc, an, od, osl, Ng, a, mgx, kept, atg, code, gets, S, slot, vis, n1, n2, gives⟩ := c.ex
  constructor
  intro pins s σ H Q I told
  refine wpAny_Call_Name_kw (ld_glob I hg mgx ?_ hdb)
  refine PySem.W.callWith_K (h₀ := (X.blk s3 H3 bsc ce fp).base) I.ok.mod.kin kept (thn ((pa_cons he pa_nil hst).run pos pins s σ H (fun vs H1 => match vs with
    | [v] => ∃ f cc : Addr, v = .ref f ∧ H1 f = some (LamO (X.env.qual ++ "<lambda>") ps bd sc (cloFrom X.env.cells sc.names []) cc f) ∧ H1 cc = some (CodeO cc (X.env.qual ++ "<lambda>")) ∧ TT (fun E G Q' => t E ms G Q') H1 Q
    | _ => False) I told) fun us s1 got => ?_) hst hpl
  obtain ⟨vs, H1, J, rel, got⟩ := got
  refine ⟨J.kIn, ?_⟩
  match vs, us, rel, got with
  | [v], [u], .cons r1 .nil, ⟨f, cc, ev, isL, isC, wish⟩ =>
    subst ev
    have ran : codeAny (model X.prog X.w) X.A (.call (.ref g) ⟨[.ref f], []⟩) (CR C8.CX0 X.stack X.prog X.w H1 s1 Q C8.E0) s1 := by
      refine LamX.run_ofS (N := Ng) (ps := [a]) (us := [.ref f]) (vs := [.ref f]) atg code S (hr.mono hk) J.env0 (gets s1 [.ref f] J.kIn rfl) (.cons rfl .nil) rfl fun room => ?_
      obtain ⟨t', d', q'⟩ := gives X.A X.stack s1 H1 f cc (X.env.qual ++ "<lambda>") _ Q _ gd room (fun W pn xe p1 p2 tk => pe_actT (k := k2) (i := 0) (C0.later J.base off) LS binds tk (room.mono hk2) (fun A outer s H E h1 h3 => inside A outer s H E f cc h1 (h3.trans gd)) slot vis n1 n2) isL isC wish
      exact ⟨t', d'.nox, q'⟩
    obtain rfl : u = Value.ref f := r1
    refine wpAny_call (codeAny_mono ran ?_)
    intro r s' done
    cases r with
    | error e => exact (show False from done).elim
    | ok fl =>
      cases fl with
      | ret u => exact J.after done
      | next => cases done
      | brk => cases done
      | cont => cases done
end
/-! ### a lambda written as the argument; a statement's lambda -/
section
variable {X : Cx}
theorem pe_callTL {T : List (Addr × Str)} {cA PA : Addr} {TT : (XK → Hp → VK → Prop) → Hp → VK → Prop} {x : Str} {k k2 j : Nat} {ps : Arguments} {bd : Expr} {sc : Scope} {t : XK → TE} {p pos lpos : Pos} (c : CalL X.prog X.w X.K X.mg X.base k x TT) (hr : Room j X.A) (hk : k + 1 ≤ j) (hk2 : k2 + 1 ≤ k) (gd : X.A.guards = some []) (hg : Gl X x)
    (TB : TabB X.base X.mg cA PA) (code : X.env.code = .ref cA) (inT : (PA, X.env.qual ++ "<lambda>") ∈ T) (one : ∀ p ∈ T, p.1 = PA → p.2 = X.env.qual ++ "<lambda>")
    (LS : LamS X.env.scope sc) (dfl : defaultsOf ps X.env = ([], [])) (binds : ∀ (q : Str) (cl : List (Str × Addr)) (pv cv tv : Value), bindArgs (PySem.W.kla_fn "<lambda>" q ps bd sc cl pv cv tv) ⟨[], []⟩ = pure [])
    (inside : ∀ (A : Around) (outer : List Env) (s : Shared) (H : Hp) (E : XK) (f cc : Addr), Room k2 (A.deeper (lamEnv X sc s.heap.objs.size f cc)) → A.guards = some [] → PE (lamCx X A outer s H E sc f cc) bd (t E))
    (hdb : (x == ("__debug__" : Str)) = false := by decide) : PE X (.Call (.Name x p) [.Lambda ps bd sc lpos] [] pos) (tCallT (tLamV T (X.env.qual ++ "<lambda>") ps bd sc (cloFrom X.env.cells sc.names [])) (X.env.qual ++ "<lambda>") ps bd sc (cloFrom X.env.cells sc.names []) TT t) :=
  pe_callT c hr hk hk2 gd hg (pe_lamV TB code inT one LS dfl) LS binds inside hdb rfl rfl
end
def lamOf : Expr → Arguments × Expr × Scope
  | .Lambda a b c _ => (a, b, c)
  | _ => (⟨[], [], none, [], [], none, []⟩, .Constant .none 0 ⟨0, 0, 0, 0⟩, ⟨.function, [], false, false, []⟩)
/-- the first lambda that a statement puts into a list -/
def lamIn : Stmt → Arguments × Expr × Scope
  | .Assign _ (.List (e :: _) _) _ => lamOf e
  | .Expr (.Call _ (e :: _) _ _) _ => lamOf e
  | _ => lamOf (.Constant .none 0 ⟨0, 0, 0, 0⟩)
end Th
namespace Th
open PySem PySem.Spec PyProof.Rows L2
local macro_rules | `(tactic| walk_at "lk") => `(tactic| first
  | assumption
  | exact upd_same
  | (refine upd_old (by assumption) ?_; walk_at "lk")
  | (refine upd_diff (by assumption) ?_; walk_at "lk")
  | (refine upd_diff (Ne.symm (by assumption)) ?_; walk_at "lk"))
local macro_rules | `(tactic| walk_at "cnd") => `(tactic| first
  | omega
  | (refine ⟨by omega, by omega⟩)
  | (refine ⟨by omega, by omega, by omega⟩)
  | (refine .inl ⟨by omega, by omega⟩)
  | (refine .inr ⟨by omega, by omega⟩)
  | (exact (show CPow _ _ from ⟨by decide, by decide, by omega⟩))
  | decide +kernel
  | (unfold CMulW; decide +kernel)
  | (exact wide_div (b := 64) (by omega) (by omega) (by decide) (by decide)))
local macro_rules | `(tactic| walk_at "rd1") => `(tactic| first
  | (with_reducible refine r_seq ?_)
  | (with_reducible refine r_asg ?_)
  | (with_reducible refine r_ret ?_)
  | (with_reducible refine r_if ?_)
  | (with_reducible refine r_gname ?_)
  | ((with_reducible refine' r_var ?hv ?_); (case hv => exact rfl))
  | (with_reducible refine r_c ?_)
  | (with_reducible refine r_op ?_)
  | (with_reducible refine r_I0 ?_)
  | ((with_reducible refine r_I ?hc ?_); (case hc => walk_at "cnd"))
  | (with_reducible refine r_test ?_)
  | (with_reducible refine r_tB ?_)
  | (with_reducible refine r_bl ?_)
  | (with_reducible refine r_not ?_)
  | (with_reducible refine r_and ?_)
  | (with_reducible refine r_or ?_)
  | (with_reducible refine r_ifE ?_)
  | (with_reducible refine r_notV ?_)
  | (with_reducible refine r_andV ?_)
  | (with_reducible refine r_orV ?_)
  | (with_reducible refine r_chain ?_)
  | (with_reducible refine r_cb ?_)
  | (with_reducible refine r_call ?_)
  | (with_reducible refine r_callN ?_)
  | (with_reducible refine r_nil ?_)
  | (with_reducible refine r_cons ?_)
  | ((with_reducible refine r_lst ?_))
  | ((with_reducible refine r_tup ?_))
  | ((with_reducible refine r_new ?_ ?_); (exact Nat.le_of_ble_eq_true rfl); (intro p hp))
  | (with_reducible refine r_rInt1 ?_)
  | (with_reducible refine r_rIntB ?_)
  | (with_reducible refine r_rAbs ?_)
  | (with_reducible refine r_rMin2 ?_)
  | (with_reducible refine r_rMax2 ?_)
  | ((with_reducible refine r_rLenZ ?hz ?_); (case hz => first | assumption | exact Nat.le_of_ble_eq_true rfl | (refine Nat.le_trans ?_ (by decide : 100000 ≤ sizeLine); omega)))
  | ((with_reducible refine r_addZ ?hz ?_); (case hz => (refine Nat.le_trans ?_ (by decide : 100000 ≤ sizeLine); first | omega | (simp only [Str.length] at *; simp; omega))))
  | ((with_reducible refine r_mulZ ?hz ?h0 ?h1 ?_); (case hz => first | omega | exact Nat.le_of_ble_eq_true rfl); (case h0 => omega); (case h1 => omega))
  | ((with_reducible refine' r_rLenQ ?h1 ?_); (case h1 => first | (exact .inl (by assumption)) | (exact .inr (by assumption)) | (exact .inl (SqL.of (by walk_at "lk"))) | (exact .inr (SqT.of (by walk_at "lk")))))
  | ((with_reducible refine r_eq ?hs ?_); (case hs => exact rfl))
  | ((with_reducible refine r_ne ?hs ?_); (case hs => exact rfl))
  | (with_reducible refine r_inC ?_)
  | ((with_reducible refine' r_cat ?h1 ?h2 ?h3 ?_); (case h1 => walk_at "lk"); (case h2 => walk_at "lk"); (case h3 => exact Nat.le_of_ble_eq_true rfl); (intro p hp))
  | ((with_reducible refine' r_rep ?h1 ?h2 ?h3 ?h4 ?_); (case h1 => walk_at "lk"); (case h2 => omega); (case h3 => omega); (case h4 => exact Nat.le_of_ble_eq_true rfl); (intro p hp))
  | ((with_reducible refine' r_append ?h1 ?h2 ?_); (case h1 => walk_at "lk"); (case h2 => first | exact (show _ + 1 ≤ sizeLine from Nat.le_of_ble_eq_true rfl) | exact Nat.lt_of_le_of_lt (by omega : _ ≤ 100000) (by decide)))
  | (with_reducible refine r_bm ?_)
  | ((with_reducible refine' r_tyL ?h1 ?_); (case h1 => walk_at "lk"))
  | ((with_reducible refine' r_ixL ?h1 ?h2 ?_); (case h1 => first | assumption | exact SqL.of (by walk_at "lk")); (case h2 => exact rfl))
  | ((with_reducible refine' r_ixT ?h1 ?h2 ?_); (case h1 => first | assumption | exact SqT.of (by walk_at "lk")); (case h2 => exact rfl))
  | (with_reducible refine r_gsub ?_)
  | ((with_reducible refine' r_setL ?h1 ?h2 ?_); (case h1 => walk_at "lk"); (case h2 => exact rfl))
  | (with_reducible refine r_un ?_)
  | (with_reducible refine r_neg ?_)
  | (with_reducible refine r_iteT ?_)
  | (with_reducible refine r_iteNT ?_)
  | (with_reducible refine r_iteNF ?_)
  | (with_reducible refine r_iteF ?_)
  | (with_reducible refine r_next ?_)
  | (with_reducible refine r_drop ?_)
  | (with_reducible refine r_cont ?_)
  | (with_reducible refine r_brk ?_))
local macro_rules | `(tactic| walk_at "ty") => `(tactic| first
  | assumption
  | exact .base (.int _)
  | exact .base (.str _)
  | exact .base (.bl _)
  | exact .base .non
  | exact .byt _
  | exact .base (.lst (by walk_at "lk"))
  | exact .base (.tup (by walk_at "lk")))
local macro_rules | `(tactic| walk_at "rd2") => `(tactic| first
  | walk_at "rd1"
  | ((with_reducible refine' r_isi true ?ht ?hk ?_); (case ht => walk_at "ty"); (case hk => first | assumption | decide +kernel))
  | ((with_reducible refine' r_isi false ?ht ?hk ?_); (case ht => walk_at "ty"); (case hk => first | assumption | decide +kernel))
  | ((with_reducible refine' r_isiT2 true true ?hT ?ht ?hk ?hk2 ?_); (case hT => walk_at "lk"); (case ht => walk_at "ty"); (case hk => decide +kernel); (case hk2 => decide +kernel))
  | ((with_reducible refine' r_isiT2 true false ?hT ?ht ?hk ?hk2 ?_); (case hT => walk_at "lk"); (case ht => walk_at "ty"); (case hk => decide +kernel); (case hk2 => decide +kernel))
  | ((with_reducible refine' r_isiT2 false true ?hT ?ht ?hk ?hk2 ?_); (case hT => walk_at "lk"); (case ht => walk_at "ty"); (case hk => decide +kernel); (case hk2 => decide +kernel))
  | ((with_reducible refine' r_isiT2 false false ?hT ?ht ?hk ?hk2 ?_); (case hT => walk_at "lk"); (case ht => walk_at "ty"); (case hk => decide +kernel); (case hk2 => decide +kernel))
  | (with_reducible refine r_iteNT ?_)
  | ((show (if (!true) = true then _ else _)); refine r_iteNT ?_)
  | (with_reducible refine r_r1 ?_)
  | (with_reducible refine r_maks ?_)
  | (with_reducible refine r_sfld ?_)
  | ((with_reducible refine' r_sfldE ?h1 ?h2 ?h3 ?h4 ?_); (case h1 => walk_at "lk"); (case h2 => assumption); (case h3 => assumption); (case h4 => exact (show _ + 1 ≤ 1000 from Nat.le_of_ble_eq_true rfl)))
  | (with_reducible refine r_fld ?_)
  | (with_reducible refine r_join ?_)
  | (with_reducible refine r_jcons ?_)
  | (with_reducible refine r_jnil ?_)
  | ((with_reducible refine r_rLenY ?hz ?_); (case hz => first | assumption | (refine Nat.le_trans ?_ (by decide : 100000 ≤ sizeLine); omega)))
  | (with_reducible refine r_par ?_)
  | (with_reducible refine r_pair ?_)
  | (with_reducible refine r_par3 ?_)
  | (with_reducible refine r_trip ?_)
  | ((with_reducible refine' r_gtup ?h1 ?h2 ?_); (case h1 => first | assumption | exact SqT.of (by walk_at "lk")); (case h2 => exact rfl))
  | (with_reducible refine r_gcons ?_)
  | (with_reducible refine r_gnil ?_)
  | ((with_reducible refine' r_slL ?h1 ?_); (case h1 => first | assumption | exact SqL.of (by walk_at "lk")); (intro p hp))
  | (with_reducible refine r_iTup ?_)
  | ((with_reducible refine' r_tupE ?h1 ?_); (case h1 => first | assumption | exact SqT.of (by walk_at "lk")))
  | (with_reducible refine r_m1 ?_)
  | (with_reducible refine r_isZ ?_)
  | (with_reducible refine r_sl ?_)
  | (with_reducible refine r_noPart ?_)
  | (with_reducible refine r_part ?_)
  | (with_reducible refine r_partE ?_)
  | ((with_reducible refine r_slS ?hz ?_); (case hz => first | assumption | (refine Nat.le_trans ?_ (by decide : 100000 ≤ sizeLine); omega)))
  | ((with_reducible refine' r_inT ?h1 ?h2 ?h3 ?_); (case h1 => first | assumption | (exact SqT.of (by walk_at "lk"))); (case h2 => exact rfl); (case h3 => exact rfl))
  | ((with_reducible refine' r_inL ?h1 ?h2 ?h3 ?_); (case h1 => first | assumption | (exact SqL.of (by walk_at "lk"))); (case h2 => exact rfl); (case h3 => exact rfl))
  | (with_reducible refine r_lc ?_)
  | (with_reducible refine r_for ?_)
  | (with_reducible refine r_iStr ?_)
  | (with_reducible refine r_strE ?_)
  | (with_reducible refine r_iList ?_)
  | ((with_reducible refine' r_listE ?h1 ?_); (case h1 => first | assumption | exact SqL.of (by walk_at "lk")))
  | (with_reducible refine r_iRng1 ?_)
  | ((with_reducible refine' r_rngE ?h0 ?h1 ?_); (case h0 => first | omega | (split <;> omega)); (case h1 => first | omega | (split <;> omega))))
local macro_rules | `(tactic| walk_at "rd") => `(tactic| (repeat walk_at "rd2"))
local macro_rules | `(tactic| walk_at "st") => `(tactic| (repeat (first
  | (with_reducible refine r_gname ?_)
  | (with_reducible refine r_next ?_)
  | (with_reducible refine r_seq ?_)
  | (with_reducible refine r_asg ?_)
  | (with_reducible refine r_ret ?_)
  | (with_reducible refine r_for ?_)
  | (with_reducible refine r_iRng1 ?_)
  | (with_reducible refine r_iList ?_)
  | (with_reducible refine r_cons ?_)
  | (with_reducible refine r_par ?_)
  | (with_reducible refine r_par3 ?_))))
/-! ### what a deed's error tells -/
open LamX (CodeO)
structure Ed where
  X : Addr
  B : Addr
  K : Addr
  Mb : Addr
  C : Addr
  Y : Addr
def etab (c : Ec) : List (Addr × Str × Str) := [(c.N, "name", "name"), (c.D, "data", "thing"), (c.S, "size", "size"), (c.P, "pieces", "pieces"), (c.M, "mode", "mode"), (c.T, "time", "time")]
structure ErrF (K : PySem.W.Frag) (c : Ec) (d : Ed) : Prop where
  g : ∀ q ∈ etab c, (∃ fI, ExG K q.1 fI) ∧ PySem.W.findIn K (.ref q.1) q.2.2 = some none
  m : ∀ q ∈ [(c.N, c.N, true), (c.D, c.N, false), (c.D, c.D, true), (c.S, c.N, false), (c.S, c.D, false), (c.S, c.S, true), (c.P, c.N, false), (c.P, c.D, false), (c.P, c.S, false), (c.P, c.P, true)], PySem.W.exmOne K (.ref q.1) (.ref q.2.1) = some q.2.2
  m2 : ∀ q ∈ [(c.M, c.N, false), (c.M, c.D, false), (c.M, c.S, false), (c.M, c.P, false), (c.M, c.M, true), (c.T, c.N, false), (c.T, c.D, false), (c.T, c.S, false), (c.T, c.P, false), (c.T, c.M, false), (c.T, c.T, true)], PySem.W.exmOne K (.ref q.1) (.ref q.2.1) = some q.2.2
  b : ∀ q ∈ [(c.N, "ValueError"), (c.D, "TypeError"), (c.S, "ValueError"), (c.P, "ValueError"), (c.M, "ValueError"), (c.T, "OverflowError")], PySem.W.kitOne K (.ref q.1) (.type q.2) = some true
  n : ∀ q ∈ [(c.S, c.P), (c.P, c.M), (c.M, d.C), (c.T, d.Y)], PySem.W.kitOne K (.ref q.1) (.ref q.2) = some false
  nN : PySem.W.kitAny K (.ref c.N) [.ref c.M, .ref d.X] = some false
  nD : PySem.W.kitAny K (.ref c.D) [.ref d.B, .ref d.K, .ref d.Mb] = some false
/-- what a deed may leave by: one of these errors, with its field -/
def deedE (c : Ec) (R : Str → Tr → Hp → Prop) : XK := fun kl dd G => ∃ (C : Addr) (kind fld : Str) (D : Addr) (y : V) (t : Tr), (C, kind, fld) ∈ etab c ∧ kl = .ref C ∧ dd = some D ∧ G D = some (.xd [(fld, y)]) ∧ Dn G y t ∧ TOk t ∧ R kind t G
/-- what _law_error makes of a deed -/
def TTerr (c : Ec) (tl : XK → Hp → VK → Prop) (H : Hp) (Q : VK) : Prop :=
  ∀ (E : XK) (R : VK), (∀ kl dd G, deedE c (fun kind t G => ∀ p G', Same G G' → G' p = some (.lst [.str kind, .str t.shown, .bl true]) → Q (.ref p) G') kl dd G → E kl dd G) → (∀ v G, (∀ p G', Same G G' → G' p = some (.lst [.str "none", .str "", .bl true]) → Q (.ref p) G') → R v G) → tl E H R
theorem r_reprT {v : V} {t : Tr} {H : Hp} {Q : VK} (d : Dn H v t) (h : TOk t) (q : Q (.str t.shown) H) : rReprT [v] H Q := ⟨v, t, rfl, d, h.1, Nat.lt_trans h.2.2.1 (by decide), h.2.2.2, q⟩
theorem r_suF {K : PySem.W.Frag} {a C D fI : Addr} {fld : Str} {y : V} {σ : L2.St} {H : Hp} {Q : VK} (T : ExG K C fI) (hno : PySem.W.findIn K (.ref C) fld = some none) (hD : H D = some (.xd [(fld, y)])) (hv : σ[1]? = some (some (.ref a))) (q : Q y H) : tSuF K a (.ref C) (some D) fld (tVar 1) σ H Q :=
  r_var hv ⟨C, fI, D, _, y, T, hno, rfl, rfl, rfl, hD, by simp [List.lookup], q⟩
theorem r_isE {K : PySem.W.Frag} {a C D fI : Addr} {fs : List (Str × V)} {x : V} {cv : Value} {b : Bool} {H : Hp} {Q : VK} (T : ExG K C fI) (hD : H D = some (.xd fs)) (kc : ClsV x cv) (e : PySem.W.kitOne K (.ref C) cv = some b) (q : Q (.bl b) H) : rIsE K a (.ref C) (some D) [.ref a, x] H Q :=
  ⟨C, fI, D, T, rfl, rfl, x, cv, b, _, rfl, hD, kc, e, q⟩
theorem r_isEt {K : PySem.W.Frag} {a C D fI tp : Addr} {fs : List (Str × V)} {cs : List V} {ws : List Value} {b : Bool} {H : Hp} {Q : VK} (T : ExG K C fI) (hD : H D = some (.xd fs)) (hT : H tp = some (.tup cs)) (kc : Paired ClsV cs ws) (e : PySem.W.kitAny K (.ref C) ws = some b) (q : Q (.bl b) H) : rIsEt K a (.ref C) (some D) [.ref a, .ref tp] H Q :=
  ⟨C, fI, D, tp, cs, ws, b, fs, T, rfl, rfl, rfl, hD, hT, kc, e, q⟩
section
variable {P : Program} {w : World} {K : PySem.W.Frag} {mg : Str → Option Value} {base : Heap}
theorem ok_error {g : Addr} {k : Nat} {c : Ec} {u : Ed} (at_ : ∃ (oc : Value) (od an : Option Addr) (kV doc pm cdv ct : Value) (osl : Array (Option Value)), K.lookup g = some ⟨oc, od, .func (PySem.W.fnOf "_law_error" "_law_error" (defArgs s__law_error) (defBody s__law_error) (defScope s__law_error) .none kV doc pm an cdv ct), osl⟩ ∧ PySem.W.codeIn K cdv "_law_error" = true) (kept : PySem.W.keepIn K (.ref g) = true) (hm : mg "_law_error" = some (.ref g))
    (e : ErrF K c u) (m1 : mg "isinstance" = none) (m2 : mg "repr" = none) (m3 : mg "ValueError" = none) (m4 : mg "TypeError" = none) (m5 : mg "OverflowError" = none)
    (mN : mg "NoName" = some (.ref c.N)) (mD : mg "NoData" = some (.ref c.D)) (mS : mg "NoSize" = some (.ref c.S)) (mP : mg "NoPieces" = some (.ref c.P)) (mM : mg "NoMode" = some (.ref c.M)) (mT : mg "NoTime" = some (.ref c.T))
    (mX : mg "NoText" = some (.ref u.X)) (mB : mg "NoBlob" = some (.ref u.B)) (mK : mg "NoBlock" = some (.ref u.K)) (mMb : mg "NoMember" = some (.ref u.Mb)) (mC : mg "NoCommand" = some (.ref u.C)) (mY : mg "TooMany" = some (.ref u.Y)) : CalL P w K mg base k "_law_error" (TTerr c) := by
  obtain ⟨oc, od, an, kV, doc, pm, cdg, ct, osl, lk, code⟩ := at_
  refine ⟨g, _, _, _, _, kV, doc, pm, cdg, ct, oc, an, od, osl, N__law_error, "_law_deed", hm, kept, lk, code, ?_, sc__law_error, rfl, .inl rfl, by decide, by decide, ?_⟩
  · exact Binds.all fun us hl => match us, hl with | [_], _ => rfl
  intro A outer s H f cc q O Q tl gd0 room act isF isC told
  have hu := room.un
  have hu64 : (A.deeper (envOfC "_law_error" (defScope s__law_error) s.heap.objs.size g cdg)).units + 64 < cLine := by have := room.un; omega
  have gd : (A.deeper (envOfC "_law_error" (defScope s__law_error) s.heap.objs.size g cdg)).guards = some [] := gd0
  have nd := sc__law_error.nd
  let tbE : WX → TS := fun W => tDrop (fun τ G Q => τ[0]? = some (some (.ref f)) ∧ G f = some O ∧ G cc = some (CodeO cc q) ∧ tl (fun kl d G' => W kl d τ G') G Q)
  have actB : ∀ (p1 p2 p3 : Pos) (W : WX) (pn : List (Addr × Obj)) (xe : Value → Shared → Prop), Takes ((zCx P w K mg base N__law_error "_law_error" (defScope s__law_error) g cdg A outer s H).nox.tr pn xe) W → PassesOwn (model P w) (A.deeper (envOfC "_law_error" (defScope s__law_error) s.heap.objs.size g cdg)) (envOfC "_law_error" (defScope s__law_error) s.heap.objs.size g cdg) xe →
      PSs ((zCx P w K mg base N__law_error "_law_error" (defScope s__law_error) g cdg A outer s H).nox.tr pn xe) [.Expr (.Call (.Name "_law_deed" p1) [] [] p2) p3] (tbE W) := fun p1 p2 p3 W pn xe tk _ => pss_one (ps_expr (act W pn xe p1 p2 tk))
  refine ⟨_, (pss_cons (ps_clauses rfl rfl nd (tb := tbE) (actB _ _ _)
      (Clauses.cons (i := 1) ⟨rfl, by decide, .inl mN⟩ rfl rfl (fun a oe cls d pn hz hf => (pss_one (ps_ret (pe_lst (pa_cons pe_str (pa_cons (pe_callB (call_rReprT gd hu64) (by rfl) (by assumption) (by decide +kernel) (pa_cons (pe_suF K hz hf (pv 1)) pa_nil)) (pa_cons (pe_and (pe_callB (call_isE K hz hf) (by rfl) (by assumption) (by decide +kernel) (pa_cons (pv 1) (pa_cons (pe_bltn (v := .ty "ValueError") (by rfl) (by assumption) (by decide +kernel) rfl) pa_nil))) (pe_one (pe_not (pe_callB (call_isEt K hz hf) (by rfl) (by assumption) (by decide +kernel) (pa_cons (pv 1) (pa_cons (pe_tup (pa_cons (pe_glob (v := .ref c.M) (by rfl) mM (by first | exact rfl | exact ⟨_, rfl⟩)) (pa_cons (pe_glob (v := .ref u.X) (by rfl) mX (by first | exact rfl | exact ⟨_, rfl⟩)) pa_nil))) pa_nil)))))) pa_nil)))))))
      (Clauses.cons (i := 1) ⟨rfl, by decide, .inl mD⟩ rfl rfl (fun a oe cls d pn hz hf => (pss_one (ps_ret (pe_lst (pa_cons pe_str (pa_cons (pe_callB (call_rReprT gd hu64) (by rfl) (by assumption) (by decide +kernel) (pa_cons (pe_suF K hz hf (pv 1)) pa_nil)) (pa_cons (pe_and (pe_callB (call_isE K hz hf) (by rfl) (by assumption) (by decide +kernel) (pa_cons (pv 1) (pa_cons (pe_bltn (v := .ty "TypeError") (by rfl) (by assumption) (by decide +kernel) rfl) pa_nil))) (pe_one (pe_not (pe_callB (call_isEt K hz hf) (by rfl) (by assumption) (by decide +kernel) (pa_cons (pv 1) (pa_cons (pe_tup (pa_cons (pe_glob (v := .ref u.B) (by rfl) mB (by first | exact rfl | exact ⟨_, rfl⟩)) (pa_cons (pe_glob (v := .ref u.K) (by rfl) mK (by first | exact rfl | exact ⟨_, rfl⟩)) (pa_cons (pe_glob (v := .ref u.Mb) (by rfl) mMb (by first | exact rfl | exact ⟨_, rfl⟩)) pa_nil)))) pa_nil)))))) pa_nil)))))))
      (Clauses.cons (i := 1) ⟨rfl, by decide, .inl mS⟩ rfl rfl (fun a oe cls d pn hz hf => (pss_one (ps_ret (pe_lst (pa_cons pe_str (pa_cons (pe_callB (call_rReprT gd hu64) (by rfl) (by assumption) (by decide +kernel) (pa_cons (pe_suF K hz hf (pv 1)) pa_nil)) (pa_cons (pe_and (pe_callB (call_isE K hz hf) (by rfl) (by assumption) (by decide +kernel) (pa_cons (pv 1) (pa_cons (pe_bltn (v := .ty "ValueError") (by rfl) (by assumption) (by decide +kernel) rfl) pa_nil))) (pe_one (pe_not (pe_callB (call_isE K hz hf) (by rfl) (by assumption) (by decide +kernel) (pa_cons (pv 1) (pa_cons (pe_glob (v := .ref c.P) (by rfl) mP (by first | exact rfl | exact ⟨_, rfl⟩)) pa_nil)))))) pa_nil)))))))
      (Clauses.cons (i := 1) ⟨rfl, by decide, .inl mP⟩ rfl rfl (fun a oe cls d pn hz hf => (pss_one (ps_ret (pe_lst (pa_cons pe_str (pa_cons (pe_callB (call_rReprT gd hu64) (by rfl) (by assumption) (by decide +kernel) (pa_cons (pe_suF K hz hf (pv 1)) pa_nil)) (pa_cons (pe_and (pe_callB (call_isE K hz hf) (by rfl) (by assumption) (by decide +kernel) (pa_cons (pv 1) (pa_cons (pe_bltn (v := .ty "ValueError") (by rfl) (by assumption) (by decide +kernel) rfl) pa_nil))) (pe_one (pe_not (pe_callB (call_isE K hz hf) (by rfl) (by assumption) (by decide +kernel) (pa_cons (pv 1) (pa_cons (pe_glob (v := .ref c.M) (by rfl) mM (by first | exact rfl | exact ⟨_, rfl⟩)) pa_nil)))))) pa_nil)))))))
      (Clauses.cons (i := 1) ⟨rfl, by decide, .inl mM⟩ rfl rfl (fun a oe cls d pn hz hf => (pss_one (ps_ret (pe_lst (pa_cons pe_str (pa_cons (pe_callB (call_rReprT gd hu64) (by rfl) (by assumption) (by decide +kernel) (pa_cons (pe_suF K hz hf (pv 1)) pa_nil)) (pa_cons (pe_and (pe_callB (call_isE K hz hf) (by rfl) (by assumption) (by decide +kernel) (pa_cons (pv 1) (pa_cons (pe_bltn (v := .ty "ValueError") (by rfl) (by assumption) (by decide +kernel) rfl) pa_nil))) (pe_one (pe_not (pe_callB (call_isE K hz hf) (by rfl) (by assumption) (by decide +kernel) (pa_cons (pv 1) (pa_cons (pe_glob (v := .ref u.C) (by rfl) mC (by first | exact rfl | exact ⟨_, rfl⟩)) pa_nil)))))) pa_nil)))))))
      (Clauses.cons (i := 1) ⟨rfl, by decide, .inl mT⟩ rfl rfl (fun a oe cls d pn hz hf => (pss_one (ps_ret (pe_lst (pa_cons pe_str (pa_cons (pe_callB (call_rReprT gd hu64) (by rfl) (by assumption) (by decide +kernel) (pa_cons (pe_suF K hz hf (pv 1)) pa_nil)) (pa_cons (pe_and (pe_callB (call_isE K hz hf) (by rfl) (by assumption) (by decide +kernel) (pa_cons (pv 1) (pa_cons (pe_bltn (v := .ty "OverflowError") (by rfl) (by assumption) (by decide +kernel) rfl) pa_nil))) (pe_one (pe_not (pe_callB (call_isE K hz hf) (by rfl) (by assumption) (by decide +kernel) (pa_cons (pv 1) (pa_cons (pe_glob (v := .ref u.Y) (by rfl) mY (by first | exact rfl | exact ⟨_, rfl⟩)) pa_nil)))))) pa_nil)))))))
      Clauses.nil)))))))
      (pss_one (ps_ret (pe_lst (pa_cons pe_str (pa_cons pe_str (pa_cons pe_bl pa_nil))))))), ?_⟩
  refine r_seq ?_
  show _ ∧ _ ∧ _ ∧ _
  refine ⟨rfl, isF, isC, told _ _ ?_ ?_⟩
  · rintro kl dd G ⟨C, kind, fld, D, y, t, mem, rfl, rfl, hD, dn, ok, R⟩
    obtain ⟨⟨fI, T⟩, hno⟩ := e.g _ mem
    simp only [etab, List.mem_cons, Prod.mk.injEq, List.not_mem_nil, or_false] at mem
    rcases mem with ⟨rfl, rfl, rfl⟩ | ⟨rfl, rfl, rfl⟩ | ⟨rfl, rfl, rfl⟩ | ⟨rfl, rfl, rfl⟩ | ⟨rfl, rfl, rfl⟩ | ⟨rfl, rfl, rfl⟩
    · refine ⟨true, e.m (c.N, c.N, true) (by simp), fun _ a ha => ?_, fun z => nomatch z⟩
      walk_at "rd"
      refine r_suF T hno hD rfl ?_
      refine r_nil (r_reprT dn ok ?_)
      walk_at "rd"
      refine r_isE T hD (.ty _) (e.b (c.N, "ValueError") (by simp)) (r_bl (r_iteT ?_))
      walk_at "rd"
      rename_i p hp
      refine r_isEt T (upd_old hp hD) upd_same (.cons (.own _) (.cons (.own _) .nil)) e.nN (r_bl ?_)
      walk_at "rd"
      rename_i p2 hp2
      exact R p2 _ ((same_new hp).trans (same_new hp2)) upd_same
    · refine ⟨false, e.m (c.D, c.N, false) (by simp), (fun z => nomatch z), fun _ => ?_⟩
      refine ⟨true, e.m (c.D, c.D, true) (by simp), fun _ a ha => ?_, fun z => nomatch z⟩
      walk_at "rd"
      refine r_suF T hno hD rfl ?_
      refine r_nil (r_reprT dn ok ?_)
      walk_at "rd"
      refine r_isE T hD (.ty _) (e.b (c.D, "TypeError") (by simp)) (r_bl (r_iteT ?_))
      walk_at "rd"
      rename_i p hp
      refine r_isEt T (upd_old hp hD) upd_same (.cons (.own _) (.cons (.own _) (.cons (.own _) .nil))) e.nD (r_bl ?_)
      walk_at "rd"
      rename_i p2 hp2
      exact R p2 _ ((same_new hp).trans (same_new hp2)) upd_same
    · refine ⟨false, e.m (c.S, c.N, false) (by simp), (fun z => nomatch z), fun _ => ?_⟩
      refine ⟨false, e.m (c.S, c.D, false) (by simp), (fun z => nomatch z), fun _ => ?_⟩
      refine ⟨true, e.m (c.S, c.S, true) (by simp), fun _ a ha => ?_, fun z => nomatch z⟩
      walk_at "rd"
      refine r_suF T hno hD rfl ?_
      refine r_nil (r_reprT dn ok ?_)
      walk_at "rd"
      refine r_isE T hD (.ty _) (e.b (c.S, "ValueError") (by simp)) (r_bl (r_iteT ?_))
      walk_at "rd"
      refine r_isE T hD (.own _) (e.n (c.S, c.P) (by simp)) (r_bl ?_)
      walk_at "rd"
      rename_i p2 hp2
      exact R p2 _ (same_new hp2) upd_same
    · refine ⟨false, e.m (c.P, c.N, false) (by simp), (fun z => nomatch z), fun _ => ?_⟩
      refine ⟨false, e.m (c.P, c.D, false) (by simp), (fun z => nomatch z), fun _ => ?_⟩
      refine ⟨false, e.m (c.P, c.S, false) (by simp), (fun z => nomatch z), fun _ => ?_⟩
      refine ⟨true, e.m (c.P, c.P, true) (by simp), fun _ a ha => ?_, fun z => nomatch z⟩
      walk_at "rd"
      refine r_suF T hno hD rfl ?_
      refine r_nil (r_reprT dn ok ?_)
      walk_at "rd"
      refine r_isE T hD (.ty _) (e.b (c.P, "ValueError") (by simp)) (r_bl (r_iteT ?_))
      walk_at "rd"
      refine r_isE T hD (.own _) (e.n (c.P, c.M) (by simp)) (r_bl ?_)
      walk_at "rd"
      rename_i p2 hp2
      exact R p2 _ (same_new hp2) upd_same
    · refine ⟨false, e.m2 (c.M, c.N, false) (by simp), (fun z => nomatch z), fun _ => ?_⟩
      refine ⟨false, e.m2 (c.M, c.D, false) (by simp), (fun z => nomatch z), fun _ => ?_⟩
      refine ⟨false, e.m2 (c.M, c.S, false) (by simp), (fun z => nomatch z), fun _ => ?_⟩
      refine ⟨false, e.m2 (c.M, c.P, false) (by simp), (fun z => nomatch z), fun _ => ?_⟩
      refine ⟨true, e.m2 (c.M, c.M, true) (by simp), fun _ a ha => ?_, fun z => nomatch z⟩
      walk_at "rd"
      refine r_suF T hno hD rfl ?_
      refine r_nil (r_reprT dn ok ?_)
      walk_at "rd"
      refine r_isE T hD (.ty _) (e.b (c.M, "ValueError") (by simp)) (r_bl (r_iteT ?_))
      walk_at "rd"
      refine r_isE T hD (.own _) (e.n (c.M, u.C) (by simp)) (r_bl ?_)
      walk_at "rd"
      rename_i p2 hp2
      exact R p2 _ (same_new hp2) upd_same
    · refine ⟨false, e.m2 (c.T, c.N, false) (by simp), (fun z => nomatch z), fun _ => ?_⟩
      refine ⟨false, e.m2 (c.T, c.D, false) (by simp), (fun z => nomatch z), fun _ => ?_⟩
      refine ⟨false, e.m2 (c.T, c.S, false) (by simp), (fun z => nomatch z), fun _ => ?_⟩
      refine ⟨false, e.m2 (c.T, c.P, false) (by simp), (fun z => nomatch z), fun _ => ?_⟩
      refine ⟨false, e.m2 (c.T, c.M, false) (by simp), (fun z => nomatch z), fun _ => ?_⟩
      refine ⟨true, e.m2 (c.T, c.T, true) (by simp), fun _ a ha => ?_, fun z => nomatch z⟩
      walk_at "rd"
      refine r_suF T hno hD rfl ?_
      refine r_nil (r_reprT dn ok ?_)
      walk_at "rd"
      refine r_isE T hD (.ty _) (e.b (c.T, "OverflowError") (by simp)) (r_bl (r_iteT ?_))
      walk_at "rd"
      refine r_isE T hD (.own _) (e.n (c.T, u.Y) (by simp)) (r_bl ?_)
      walk_at "rd"
      rename_i p2 hp2
      exact R p2 _ (same_new hp2) upd_same
  · intro v G h
    walk_at "rd"
    rename_i p hp
    exact h p _ (same_new hp) upd_same
end
end Th
namespace Th
open PySem PySem.Spec PyProof.Rows L2
local macro_rules | `(tactic| walk_at "lk") => `(tactic| first
  | assumption
  | exact upd_same
  | (refine upd_old (by assumption) ?_; walk_at "lk")
  | (refine upd_diff (by assumption) ?_; walk_at "lk")
  | (refine upd_diff (Ne.symm (by assumption)) ?_; walk_at "lk"))
local macro_rules | `(tactic| walk_at "cnd") => `(tactic| first
  | omega
  | (refine ⟨by omega, by omega⟩)
  | (refine ⟨by omega, by omega, by omega⟩)
  | (refine .inl ⟨by omega, by omega⟩)
  | (refine .inr ⟨by omega, by omega⟩)
  | (exact (show CPow _ _ from ⟨by decide, by decide, by omega⟩))
  | decide +kernel
  | (unfold CMulW; decide +kernel)
  | (exact wide_div (b := 64) (by omega) (by omega) (by decide) (by decide)))
local macro_rules | `(tactic| walk_at "rd1") => `(tactic| first
  | (with_reducible refine r_seq ?_)
  | (with_reducible refine r_asg ?_)
  | (with_reducible refine r_ret ?_)
  | (with_reducible refine r_if ?_)
  | (with_reducible refine r_gname ?_)
  | ((with_reducible refine' r_var ?hv ?_); (case hv => exact rfl))
  | (with_reducible refine r_c ?_)
  | (with_reducible refine r_op ?_)
  | (with_reducible refine r_I0 ?_)
  | ((with_reducible refine r_I ?hc ?_); (case hc => walk_at "cnd"))
  | (with_reducible refine r_test ?_)
  | (with_reducible refine r_tB ?_)
  | (with_reducible refine r_bl ?_)
  | (with_reducible refine r_not ?_)
  | (with_reducible refine r_and ?_)
  | (with_reducible refine r_or ?_)
  | (with_reducible refine r_ifE ?_)
  | (with_reducible refine r_notV ?_)
  | (with_reducible refine r_andV ?_)
  | (with_reducible refine r_orV ?_)
  | (with_reducible refine r_chain ?_)
  | (with_reducible refine r_cb ?_)
  | (with_reducible refine r_call ?_)
  | (with_reducible refine r_callN ?_)
  | (with_reducible refine r_nil ?_)
  | (with_reducible refine r_cons ?_)
  | ((with_reducible refine r_lst ?_))
  | ((with_reducible refine r_tup ?_))
  | ((with_reducible refine r_new ?_ ?_); (exact Nat.le_of_ble_eq_true rfl); (intro p hp))
  | (with_reducible refine r_rInt1 ?_)
  | (with_reducible refine r_rIntB ?_)
  | (with_reducible refine r_rAbs ?_)
  | (with_reducible refine r_rMin2 ?_)
  | (with_reducible refine r_rMax2 ?_)
  | ((with_reducible refine r_rLenZ ?hz ?_); (case hz => first | assumption | exact Nat.le_of_ble_eq_true rfl | (refine Nat.le_trans ?_ (by decide : 100000 ≤ sizeLine); omega)))
  | ((with_reducible refine r_addZ ?hz ?_); (case hz => (refine Nat.le_trans ?_ (by decide : 100000 ≤ sizeLine); first | omega | (simp only [Str.length] at *; simp; omega))))
  | ((with_reducible refine r_mulZ ?hz ?h0 ?h1 ?_); (case hz => first | omega | exact Nat.le_of_ble_eq_true rfl); (case h0 => omega); (case h1 => omega))
  | ((with_reducible refine' r_rLenQ ?h1 ?_); (case h1 => first | (exact .inl (by assumption)) | (exact .inr (by assumption)) | (exact .inl (SqL.of (by walk_at "lk"))) | (exact .inr (SqT.of (by walk_at "lk")))))
  | ((with_reducible refine r_eq ?hs ?_); (case hs => exact rfl))
  | ((with_reducible refine r_ne ?hs ?_); (case hs => exact rfl))
  | (with_reducible refine r_inC ?_)
  | ((with_reducible refine' r_cat ?h1 ?h2 ?h3 ?_); (case h1 => walk_at "lk"); (case h2 => walk_at "lk"); (case h3 => exact Nat.le_of_ble_eq_true rfl); (intro p hp))
  | ((with_reducible refine' r_rep ?h1 ?h2 ?h3 ?h4 ?_); (case h1 => walk_at "lk"); (case h2 => omega); (case h3 => omega); (case h4 => exact Nat.le_of_ble_eq_true rfl); (intro p hp))
  | ((with_reducible refine' r_append ?h1 ?h2 ?_); (case h1 => walk_at "lk"); (case h2 => first | exact (show _ + 1 ≤ sizeLine from Nat.le_of_ble_eq_true rfl) | exact Nat.lt_of_le_of_lt (by omega : _ ≤ 100000) (by decide)))
  | (with_reducible refine r_bm ?_)
  | ((with_reducible refine' r_tyL ?h1 ?_); (case h1 => walk_at "lk"))
  | ((with_reducible refine' r_ixL ?h1 ?h2 ?_); (case h1 => first | assumption | exact SqL.of (by walk_at "lk")); (case h2 => exact rfl))
  | ((with_reducible refine' r_ixT ?h1 ?h2 ?_); (case h1 => first | assumption | exact SqT.of (by walk_at "lk")); (case h2 => exact rfl))
  | (with_reducible refine r_gsub ?_)
  | ((with_reducible refine' r_setL ?h1 ?h2 ?_); (case h1 => walk_at "lk"); (case h2 => exact rfl))
  | (with_reducible refine r_un ?_)
  | (with_reducible refine r_neg ?_)
  | (with_reducible refine r_iteT ?_)
  | (with_reducible refine r_iteNT ?_)
  | (with_reducible refine r_iteNF ?_)
  | (with_reducible refine r_iteF ?_)
  | (with_reducible refine r_next ?_)
  | (with_reducible refine r_drop ?_)
  | (with_reducible refine r_cont ?_)
  | (with_reducible refine r_brk ?_))
local macro_rules | `(tactic| walk_at "ty") => `(tactic| first
  | assumption
  | exact .base (.int _)
  | exact .base (.str _)
  | exact .base (.bl _)
  | exact .base .non
  | exact .byt _
  | exact .base (.lst (by walk_at "lk"))
  | exact .base (.tup (by walk_at "lk")))
local macro_rules | `(tactic| walk_at "rd2") => `(tactic| first
  | walk_at "rd1"
  | ((with_reducible refine' r_isi true ?ht ?hk ?_); (case ht => walk_at "ty"); (case hk => first | assumption | decide +kernel))
  | ((with_reducible refine' r_isi false ?ht ?hk ?_); (case ht => walk_at "ty"); (case hk => first | assumption | decide +kernel))
  | ((with_reducible refine' r_isiT2 true true ?hT ?ht ?hk ?hk2 ?_); (case hT => walk_at "lk"); (case ht => walk_at "ty"); (case hk => decide +kernel); (case hk2 => decide +kernel))
  | ((with_reducible refine' r_isiT2 true false ?hT ?ht ?hk ?hk2 ?_); (case hT => walk_at "lk"); (case ht => walk_at "ty"); (case hk => decide +kernel); (case hk2 => decide +kernel))
  | ((with_reducible refine' r_isiT2 false true ?hT ?ht ?hk ?hk2 ?_); (case hT => walk_at "lk"); (case ht => walk_at "ty"); (case hk => decide +kernel); (case hk2 => decide +kernel))
  | ((with_reducible refine' r_isiT2 false false ?hT ?ht ?hk ?hk2 ?_); (case hT => walk_at "lk"); (case ht => walk_at "ty"); (case hk => decide +kernel); (case hk2 => decide +kernel))
  | (with_reducible refine r_iteNT ?_)
  | ((show (if (!true) = true then _ else _)); refine r_iteNT ?_)
  | (with_reducible refine r_r1 ?_)
  | (with_reducible refine r_maks ?_)
  | (with_reducible refine r_sfld ?_)
  | ((with_reducible refine' r_sfldE ?h1 ?h2 ?h3 ?h4 ?_); (case h1 => walk_at "lk"); (case h2 => assumption); (case h3 => assumption); (case h4 => exact (show _ + 1 ≤ 1000 from Nat.le_of_ble_eq_true rfl)))
  | (with_reducible refine r_fld ?_)
  | (with_reducible refine r_join ?_)
  | (with_reducible refine r_jcons ?_)
  | (with_reducible refine r_jnil ?_)
  | ((with_reducible refine r_rLenY ?hz ?_); (case hz => first | assumption | (refine Nat.le_trans ?_ (by decide : 100000 ≤ sizeLine); omega)))
  | (with_reducible refine r_par ?_)
  | (with_reducible refine r_pair ?_)
  | (with_reducible refine r_par3 ?_)
  | (with_reducible refine r_trip ?_)
  | ((with_reducible refine' r_gtup ?h1 ?h2 ?_); (case h1 => first | assumption | exact SqT.of (by walk_at "lk")); (case h2 => exact rfl))
  | (with_reducible refine r_gcons ?_)
  | (with_reducible refine r_gnil ?_)
  | ((with_reducible refine' r_slL ?h1 ?_); (case h1 => first | assumption | exact SqL.of (by walk_at "lk")); (intro p hp))
  | (with_reducible refine r_iTup ?_)
  | ((with_reducible refine' r_tupE ?h1 ?_); (case h1 => first | assumption | exact SqT.of (by walk_at "lk")))
  | (with_reducible refine r_m1 ?_)
  | (with_reducible refine r_isZ ?_)
  | (with_reducible refine r_sl ?_)
  | (with_reducible refine r_noPart ?_)
  | (with_reducible refine r_part ?_)
  | (with_reducible refine r_partE ?_)
  | ((with_reducible refine r_slS ?hz ?_); (case hz => first | assumption | (refine Nat.le_trans ?_ (by decide : 100000 ≤ sizeLine); omega)))
  | ((with_reducible refine' r_inT ?h1 ?h2 ?h3 ?_); (case h1 => first | assumption | (exact SqT.of (by walk_at "lk"))); (case h2 => exact rfl); (case h3 => exact rfl))
  | ((with_reducible refine' r_inL ?h1 ?h2 ?h3 ?_); (case h1 => first | assumption | (exact SqL.of (by walk_at "lk"))); (case h2 => exact rfl); (case h3 => exact rfl))
  | (with_reducible refine r_lc ?_)
  | (with_reducible refine r_for ?_)
  | (with_reducible refine r_iStr ?_)
  | (with_reducible refine r_strE ?_)
  | (with_reducible refine r_iList ?_)
  | ((with_reducible refine' r_listE ?h1 ?_); (case h1 => first | assumption | exact SqL.of (by walk_at "lk")))
  | (with_reducible refine r_iRng1 ?_)
  | ((with_reducible refine' r_rngE ?h0 ?h1 ?_); (case h0 => first | omega | (split <;> omega)); (case h1 => first | omega | (split <;> omega))))
local macro_rules | `(tactic| walk_at "rd") => `(tactic| (repeat walk_at "rd2"))
local macro_rules | `(tactic| walk_at "st") => `(tactic| (repeat (first
  | (with_reducible refine r_gname ?_)
  | (with_reducible refine r_next ?_)
  | (with_reducible refine r_seq ?_)
  | (with_reducible refine r_asg ?_)
  | (with_reducible refine r_ret ?_)
  | (with_reducible refine r_for ?_)
  | (with_reducible refine r_iRng1 ?_)
  | (with_reducible refine r_iList ?_)
  | (with_reducible refine r_cons ?_)
  | (with_reducible refine r_par ?_)
  | (with_reducible refine r_par3 ?_))))
section
variable {P : Program} {w : World} {K : PySem.W.Frag} {mg : Str → Option Value} {base : Heap}
def spSource (K : PySem.W.Frag) : Sp := fun vs H Q _ => ∃ (a : Addr) (ns : List Int) (i : Nat), vs = [.ref a, .int (i : Int)] ∧ SqL K H a (ns.map V.int) ∧ ns.length ≤ 63 ∧ i ≤ 63 ∧ ∀ p H', H p = none → Same H H' → Src H' p → Q (.ref p) H'
theorem sp_source {a : Addr} {ns : List Int} {i : Nat} {H : Hp} {Q : VK} {E : XK} (hs : SqL K H a (ns.map V.int)) (hz : ns.length ≤ 63) (hi : i ≤ 63) (k : ∀ p H', H p = none → Same H H' → Src H' p → Q (.ref p) H') : spSource K ([.ref a, .int (i : Int)] ++ []) H Q E := ⟨a, ns, i, rfl, hs, hz, hi, k⟩
theorem ints_at {ns : List Int} {i : Nat} (h : i < ns.length) : (ns.map V.int)[i]? = some (.int ns[i]) := by rw [List.getElem?_map, List.getElem?_eq_getElem h]; rfl
theorem ok_source {f : Addr} {fd : FuncData} {k : Nat} (F : Fun K "_law_source" "_law_source" s__law_source f fd) (m1 : mg "len" = none) (m2 : mg "int" = none) (m3 : mg "abs" = none) (m4 : mg "min" = none) (m5 : mg "range" = none) :
    FnOk P w K mg base CX0 (k + 1) f fd ["_law_script", "_law_at"] (spSource K) := by
  refine F.ok sc__law_source (fun vs H Q E h => ?_) (fun cdv A outer s H vs Q E hr h => ?_)
  · obtain ⟨a, ns, i, rfl, _⟩ := h
    rfl
  · obtain ⟨a, ns, i, rfl, hS, hz, hi, q⟩ := h
    have hu := hu_of hr
    have nd := sc__law_source.nd
    have hml : (ns.map V.int).length = ns.length := List.length_map ..
    refine ⟨_, (pss_cons (ps_set (i := 2) nd rfl (Or.inl rfl) (pe_ifExp (pt_cmpR op_lt (pv 1) (pe_callB (call_lenK K) (by rfl) (by assumption) (by decide +kernel) (pa_cons (pv 0) pa_nil)) (nomark _)) (pe_ix (ix_listK K) (pv 0) (pv 1) (fun _ _ => rfl)) pe_int))
      (pss_cons (ps_set (i := 3) nd rfl (Or.inl rfl) (pe_ifExp (pt_cmpR op_ge (pe_callB call_rAbs (by rfl) (by assumption) (by decide +kernel) (pa_cons (pv 2) pa_nil)) (pe_op op_pow pe_int pe_int) (nomark _)) (pe_op op_mod (pe_callTy call_rInt1 (by rfl) (by assumption) (by decide +kernel) (pa_cons (pe_callB call_rAbs (by rfl) (by assumption) (by decide +kernel) (pa_cons (pv 2) pa_nil)) pa_nil)) (pe_op op_mulW (pe_op op_mulW (pe_op op_pow pe_int pe_int) (pe_op op_pow pe_int pe_int)) (pe_op op_pow pe_int pe_int))) pe_int))
      (pss_cons (ps_set (i := 4) nd rfl (Or.inl rfl) (pe_op op_mod (pe_callTy call_rInt1 (by rfl) (by assumption) (by decide +kernel) (pa_cons (pe_op op_add (pe_op op_add (pv 2) (pe_op op_mul pe_int (pv 1))) pe_int) pa_nil)) pe_int))
      (pss_cons (ps_for PassesOwn.never rfl (pi_range1 (by rfl) (by assumption) (pa_cons (pe_callB call_rMin2 (by rfl) (by assumption) (by decide +kernel) (pa_cons (pe_callB (call_lenK K) (by rfl) (by assumption) (by decide +kernel) (pa_cons (pv 0) pa_nil)) (pa_cons pe_int pa_nil))) pa_nil)) (pg_name (i := 5) nd rfl (Or.inl rfl))
        (pss_one (ps_set (i := 4) nd rfl (Or.inl rfl) (pe_op op_mod (pe_callTy call_rInt1 (by rfl) (by assumption) (by decide +kernel) (pa_cons (pe_op op_add (pe_op op_add (pe_op op_pow (pv 4) pe_int) (pe_op op_mod (pe_callTy call_rInt1 (by rfl) (by assumption) (by decide +kernel) (pa_cons (pe_ix (ix_listK K) (pv 0) (pv 5) (fun _ _ => rfl)) pa_nil)) pe_int)) (pe_op op_mul pe_int (pv 5))) pa_nil)) pe_int))))
      (pss_one (ps_ret (pe_lst (pa_cons (pv 3) (pa_cons (pv 4) (pa_cons pe_int pa_nil)))))))))), ?_⟩
    walk_at "rd"
    refine r_joinI (fun _ => True) (fun cell _ => ?_) (fun Q' k h1 => ?_) (fun Q' k h1 => ?_)
    · walk_at "rd"
      refine r_joinI (fun large => 0 ≤ large) (fun large hl => ?_) (fun Q' k h1 => ?_) (fun Q' k h1 => ?_)
      · walk_at "rd"
        refine for_it (walk_range (lo := 0) (n := (if (9 : Int) < ↑(ns.map V.int).length then 9 else ↑(ns.map V.int).length : Int).toNat)) (fun j σ H' => ∃ (mix : Int) (v : Option V), σ = [some (.ref a), some (.int (i : Int)), some (.int cell), some (.int large), some (.int mix), v] ∧ H' = H ∧ 0 ≤ mix ∧ mix < 2147483647) ?_ (fun _ _ _ _ _ => True.intro) ?_ ?_
        · exact ⟨_, _, rfl, rfl, Int.emod_nonneg _ (by decide), Int.emod_lt_of_pos _ (by decide)⟩
        · rintro j x σ Hc H' hj ⟨mix, v, rfl, rfl, hm0, hm1⟩ ⟨rfl, rfl⟩
          have hj' : j < ns.length := by rw [hml] at hj; split at hj <;> omega
          walk_at "rd"
          refine r_ixL hS (i := (0 : Int) + (j : Int)) (by rw [Int.zero_add]; exact atI_nat (ints_at hj')) ?_
          walk_at "rd"
          exact ⟨_, _, rfl, rfl, Int.emod_nonneg _ (by decide), Int.emod_lt_of_pos _ (by decide)⟩
        · rintro σ Hc ⟨mix, v, rfl, rfl, hm0, hm1⟩
          walk_at "rd"
          rename_i p hp
          exact q p _ hp (same_new hp) ⟨large, mix, 0, upd_same, hl, hm0, hm1⟩
      · walk_at "rd"
        refine k _ (Int.emod_nonneg _ ?_)
        decide +kernel
      · walk_at "rd"
        exact k _ (by decide)
    · have hi' : i < ns.length := by omega
      walk_at "rd"
      refine r_ixL hS (atI_nat (ints_at hi')) ?_
      exact k _ True.intro
    · walk_at "rd"
      exact k _ True.intro
end
theorem But.refl (a : Addr) (H : Hp) : But a H H := fun _ _ _ e => e
theorem But.trans {a : Addr} {H H1 H2 : Hp} (x : But a H H1) (y : But a H1 H2) : But a H H2 := fun b o n e => y b o n (x b o n e)
theorem But.new {a p : Addr} {H H' : Hp} {o : HO} (hp : H p = none) (y : But a (upd H p o) H') : But a H H' := fun b u n e => y b u n (upd_old hp e)
theorem Same.but {a : Addr} {H H' : Hp} (e : Same H H') : But a H H' := fun b o _ h => e b o h
theorem Src.same {H H' : Hp} {a : Addr} (e : Same H H') (h : Src H a) : Src H' a := by
  obtain ⟨l, m, c, h1, h2⟩ := h
  exact ⟨l, m, c, e _ _ h1, h2⟩
theorem Src.new {H : Hp} {a p : Addr} {o : HO} (hp : H p = none) (h : Src H a) : Src (upd H p o) a := h.same (same_new hp)
theorem Src.ne {H : Hp} {a p : Addr} (h : Src H a) (hp : H p = none) : p ≠ a := by
  obtain ⟨l, m, c, h1, h2⟩ := h
  exact (ne_of_none h1 hp).symm
theorem pick_at {xs : List V} {d : Int} (h0 : 0 ≤ d) (h1 : d < (xs.length : Int)) : ∃ v, v ∈ xs ∧ atI xs d = some v := by
  have hd : d.toNat < xs.length := by omega
  refine ⟨xs[d.toNat], List.getElem_mem hd, ?_⟩
  have e : d = (d.toNat : Int) := by omega
  have h := atI_nat (List.getElem?_eq_getElem hd)
  rw [← e] at h
  exact h
section
variable {K : PySem.W.Frag} {σ : L2.St} {H : Hp} {Q : VK}
/-- one of a written list, drawn -/
theorem r_pick {a : Addr} {i : Nat} {n : Int} {ta : TA} (P : V → Prop) (hi : σ[i]? = some (some (.ref a))) (h0 : 0 < n) (h1 : n < 1000000)
    (hta : ∀ Q' : List V → Hp → Prop, (∀ xs H1, (xs.length : Int) = n → (∀ v ∈ xs, P v) → Src H1 a → But a H H1 → Q' xs H1) → ta σ H Q') (k : ∀ v H', P v → Src H' a → But a H H' → Q v H') :
    tOp (rIxL K) (tLst ta) (tCall spDraw [] E0 (tCons (tVar i) (tCons (tC (.int n)) tNil))) σ H Q := by
  refine r_op (r_lst (hta _ fun xs H1 hl hp hs hb => ?_))
  refine ⟨Nat.le_trans (by omega : xs.length ≤ 1000000) (by decide), fun p hp0 => ?_⟩
  refine r_call (r_cons (r_var hi (r_cons (r_c (r_nil ?_)))))
  refine sp_draw (hs.new hp0) h0 (by omega) (fun d H' d0 d1 hs' hb' => ?_)
  obtain ⟨v, hv, e⟩ := pick_at (xs := xs) d0 (by omega)
  exact r_ixL (SqL.of (hb' p _ (hs.ne hp0) upd_same)) e (k v H' (hp v hv) hs' (hb.trans (hb'.new hp0)))
/-- a sign of a written text, drawn -/
theorem r_pickS {a : Addr} {i : Nat} {z : Str} {n : Int} (hi : σ[i]? = some (some (.ref a))) (hn : (z.length : Int) = n) (h0 : 0 < n) (h1 : n < 1000000) (hs : Src H a) (k : ∀ c H', c ∈ z.cps.toList → Src H' a → But a H H' → Q (.str ⟨#[c]⟩) H') :
    tOp rIxS (tC (.str z)) (tCall spDraw [] E0 (tCons (tVar i) (tCons (tC (.int n)) tNil))) σ H Q := by
  refine r_op (r_c (r_call (r_cons (r_var hi (r_cons (r_c (r_nil ?_)))))))
  refine sp_draw hs h0 (by omega) (fun d H' d0 d1 hs' hb' => ?_)
  have hz : z.cps.toList.length = z.length := by simp [Str.length]
  have hd : d.toNat < z.cps.toList.length := by omega
  have e : d = (d.toNat : Int) := by omega
  have h := atI_nat (List.getElem?_eq_getElem hd)
  rw [← e] at h
  exact r_ixS (Nat.le_trans (by omega : z.length ≤ 1000000) (by decide)) h (k _ H' (List.getElem_mem hd) hs' hb')
end
def shortS (m : Nat) (v : V) : Prop := ∃ z : Str, v = .str z ∧ z.length ≤ m
def shortB (m : Nat) : V → Bool
  | .str z => decide (z.length ≤ m)
  | _ => false
theorem short_all {m : Nat} {xs : List V} (h : xs.all (shortB m) = true) : ∀ v ∈ xs, shortS m v := fun v hv => by
  have h1 := List.all_eq_true.mp h v hv
  cases v with
  | str z => exact ⟨z, rfl, of_decide_eq_true h1⟩
  | _ => cases h1
def intIn (lo hi : Int) (v : V) : Prop := ∃ i : Int, v = .int i ∧ lo ≤ i ∧ i ≤ hi
def intB (lo hi : Int) : V → Bool
  | .int i => decide (lo ≤ i) && decide (i ≤ hi)
  | _ => false
theorem int_all {lo hi : Int} {xs : List V} (h : xs.all (intB lo hi) = true) : ∀ v ∈ xs, intIn lo hi v := fun v hv => by
  have h1 := List.all_eq_true.mp h v hv
  cases v with
  | int i =>
    have h2 : (decide (lo ≤ i) && decide (i ≤ hi)) = true := h1
    simp only [Bool.and_eq_true, decide_eq_true_eq] at h2
    exact ⟨i, rfl, h2.1, h2.2⟩
  | _ => cases h1
theorem len_add (x y : Str) : (x ++ y).length = x.length + y.length := by
  rw [← SX.S_tl x, ← SX.S_tl y, SX.S_cat, SX.S_len, SX.S_len, SX.S_len, List.length_append]
theorem pick_lst {H : Hp} {p : Addr} {xs : List V} {d n : Int} (hl : H p = some (.lst xs)) (hn : (xs.length : Int) = n) (h0 : 0 ≤ d) (h1 : d < n) : ∃ v, v ∈ xs ∧ atI xs d = some v := pick_at h0 (by omega)
theorem But.back0 {a p : Addr} {H H' : Hp} (b : But a H H') (hs : Src H a) (hs' : Src H' a) (hp : H' p = none) : H p = none := by
  cases q : H p with
  | none => rfl
  | some o =>
    by_cases e : p = a
    · obtain ⟨l, m, c, h1, _⟩ := hs'
      rw [e, h1] at hp
      cases hp
    · rw [b p o e q] at hp
      cases hp
/-! ### one of two lists -/
def PickAt (H : Hp) (p : Addr) (v : V) (b : Bool) : Prop := H p = some (.tup [v, .bl b])
def spPick : Sp := fun vs H Q _ => ∃ (a g b : Addr) (gs bs : List V), vs = [.ref a, .ref g, .ref b] ∧ Src H a ∧ H g = some (.lst gs) ∧ H b = some (.lst bs) ∧ 0 < gs.length ∧ 0 < bs.length ∧ gs.length ≤ 1000 ∧ bs.length ≤ 1000 ∧ g ≠ a ∧ b ≠ a ∧
  ∀ p v f H', H p = none → PickAt H' p v f → (f = false → v ∈ gs) → (f = true → v ∈ bs) → Src H' a → But a H H' → Q (.ref p) H'
section
variable {P : Program} {w : World} {K : PySem.W.Frag} {mg : Str → Option Value} {base : Heap}
theorem ok_pick {f : Addr} {fd : FuncData} {k : Nat} (F : Fun K "_law_pick" "_law_pick" s__law_pick f fd) (m1 : mg "len" = none) (c_draw : CalT P w K mg base 2 "_law_draw" spDraw) : FnOk P w K mg base CX0 (k + 4) f fd ["_law_source_here", "_law_good", "_law_bad"] spPick := by
  refine F.ok sc__law_pick (fun vs H Q E h => ?_) (fun cdv A outer s H vs Q E hr h => ?_)
  · obtain ⟨a, g, b, gs, bs, rfl, _⟩ := h
    rfl
  · obtain ⟨a, g, b, gs, bs, rfl, hs, hg, hb, l1, l2, l3, l4, n1, n2, q⟩ := h
    have hu := hu_of hr
    have nd := sc__law_pick.nd
    refine ⟨_, (pss_cons (ps_if (pt_cmpR op_gt (pe_cc c_draw hr (by omega) (by rfl) (pa_cons (pv 0) (pa_cons pe_int pa_nil))) pe_int (nomark _))
        (pss_one (ps_ret (pe_tup (pa_cons (pe_ix (ix_listK K) (pv 1) (pe_cc c_draw hr (by omega) (by rfl) (pa_cons (pv 0) (pa_cons (pe_callB (call_lenK K) (by rfl) (by assumption) (by decide +kernel) (pa_cons (pv 1) pa_nil)) pa_nil))) (fun _ _ => rfl)) (pa_cons pe_bl pa_nil)))))
        pss_nil)
      (pss_one (ps_ret (pe_tup (pa_cons (pe_ix (ix_listK K) (pv 2) (pe_cc c_draw hr (by omega) (by rfl) (pa_cons (pv 0) (pa_cons (pe_callB (call_lenK K) (by rfl) (by assumption) (by decide +kernel) (pa_cons (pv 2) pa_nil)) pa_nil))) (fun _ _ => rfl)) (pa_cons pe_bl pa_nil)))))), ?_⟩
    walk_at "rd"
    refine sp_draw hs (by decide) (by decide) (fun d H1 d0 d1 hs1 hb1 => ?_)
    walk_at "rd"
    refine r_iteD (fun h1 => ?_) (fun h1 => ?_)
    · walk_at "rd"
      refine r_rLenQ (.inl (SqL.of (hb1 g _ n1 hg))) ?_
      walk_at "rd"
      refine sp_draw hs1 (by omega) (by omega) (fun d2 H2 d20 d21 hs2 hb2 => ?_)
      obtain ⟨v, hv, e⟩ := pick_at (xs := gs) d20 (by omega)
      refine r_ixL (SqL.of (hb2 g _ n1 (hb1 g _ n1 hg))) e ?_
      walk_at "rd"
      rename_i p hp
      exact q p v false _ ((hb1.trans hb2).back0 hs hs2 hp) upd_same (fun _ => hv) (fun z => nomatch z) (hs2.new hp) ((hb1.trans hb2).trans (Same.but (same_new hp)))
    · walk_at "rd"
      refine r_rLenQ (.inl (SqL.of (hb1 b _ n2 hb))) ?_
      walk_at "rd"
      refine sp_draw hs1 (by omega) (by omega) (fun d2 H2 d20 d21 hs2 hb2 => ?_)
      obtain ⟨v, hv, e⟩ := pick_at (xs := bs) d20 (by omega)
      refine r_ixL (SqL.of (hb2 b _ n2 (hb1 b _ n2 hb))) e ?_
      walk_at "rd"
      rename_i p hp
      exact q p v true _ ((hb1.trans hb2).back0 hs hs2 hp) upd_same (fun z => nomatch z) (fun _ => hv) (hs2.new hp) ((hb1.trans hb2).trans (Same.but (same_new hp)))
/-- what the law expects: the first wrong one's kind and text -/
def dueV : Option (Str × Tr) → List V
  | none => [.str "none", .str "", .bl true]
  | some (k, t) => [.str k, .str t.shown, .bl true]
def stDue (f1 f2 : Bool) (t u : Tr) : Option (Str × Tr) := if f1 = true then some ("mode", t) else if f2 = true then some ("time", u) else none
def spSDue : Sp := fun vs H Q _ => ∃ (p q : Addr) (x y : V) (f1 f2 : Bool) (t u : Tr), vs = [.ref p, .ref q] ∧ PickAt H p x f1 ∧ PickAt H q y f2 ∧ Dn H x t ∧ Dn H y u ∧ TOk t ∧ TOk u ∧ ∀ L H', H L = none → Same H H' → H' L = some (.lst (dueV (stDue f1 f2 t u))) → Q (.ref L) H'
theorem ok_sdue {f : Addr} {fd : FuncData} {k : Nat} (F : Fun K "_law_stamps_due" "_law_stamps_due" s__law_stamps_due f fd) (m1 : mg "repr" = none) : FnG P w K mg base (k + 4) f fd ["_law_bits", "_law_time_here"] spSDue := by
  refine Fun.okG (k := k + 3) F sc__law_stamps_due (fun vs H Q E h => ?_) (fun cdv A outer s H vs Q E hr gd0 h => ?_)
  · obtain ⟨p, q, x, y, f1, f2, t, u, rfl, _⟩ := h
    rfl
  · obtain ⟨p, q, x, y, f1, f2, t, u, rfl, h1, h2, d1, d2, o1, o2, q⟩ := h
    have hu := hu_of hr
    have hu64 : (A.deeper (envOfC "_law_stamps_due" (defScope s__law_stamps_due) s.heap.objs.size f cdv)).units + 64 < cLine := by have := hr.un; omega
    have gd : (A.deeper (envOfC "_law_stamps_due" (defScope s__law_stamps_due) s.heap.objs.size f cdv)).guards = some [] := gd0
    have nd := sc__law_stamps_due.nd
    refine ⟨_, (pss_cons (ps_if (pt_val (pe_ix (ix_tupK K) (pv 0) pe_int (fun _ _ => rfl)))
        (pss_one (ps_ret (pe_lst (pa_cons pe_str (pa_cons (pe_callB (call_rReprT gd hu64) (by rfl) (by assumption) (by decide +kernel) (pa_cons (pe_ix (ix_tupK K) (pv 0) pe_int (fun _ _ => rfl)) pa_nil)) (pa_cons pe_bl pa_nil))))))
        pss_nil)
      (pss_one (ps_ret (pe_ifExp (pt_val (pe_ix (ix_tupK K) (pv 1) pe_int (fun _ _ => rfl))) (pe_lst (pa_cons pe_str (pa_cons (pe_callB (call_rReprT gd hu64) (by rfl) (by assumption) (by decide +kernel) (pa_cons (pe_ix (ix_tupK K) (pv 1) pe_int (fun _ _ => rfl)) pa_nil)) (pa_cons pe_bl pa_nil)))) (pe_lst (pa_cons pe_str (pa_cons pe_str (pa_cons pe_bl pa_nil)))))))), ?_⟩
    walk_at "rd"
    have hE : PickAt H p x f1 := h1
    refine r_iteB (fun e1 => ?_) (fun e1 => ?_)
    · refine r_ret (r_lst (r_cons (r_c (r_cons (r_cb (r_cons (r_op (r_var rfl (r_c (r_ixT (SqT.of hE) rfl (r_nil (r_reprT d1 o1 ?_))))))))))))
      walk_at "rd"
      rename_i L hL
      refine q L _ hL (same_new hL) ?_
      rw [stDue, if_pos e1]
      exact upd_same
    · have hE2 : PickAt H _ y f2 := h2
      walk_at "rd"
      refine r_iteB (fun e2 => ?_) (fun e2 => ?_)
      · refine r_lst (r_cons (r_c (r_cons (r_cb (r_cons (r_op (r_var rfl (r_c (r_ixT (SqT.of hE2) rfl (r_nil (r_reprT d2 o2 ?_)))))))))))
        walk_at "rd"
        rename_i L hL
        refine q L _ hL (same_new hL) ?_
        rw [stDue, if_neg (by rw [e1]; exact Bool.false_ne_true), if_pos e2]
        exact upd_same
      · walk_at "rd"
        rename_i L hL
        refine q L _ hL (same_new hL) ?_
        rw [stDue, if_neg (by rw [e1]; exact Bool.false_ne_true), if_neg (by rw [e2]; exact Bool.false_ne_true)]
        exact upd_same
end
end Th
namespace Th
open PySem PySem.Spec PyProof.Rows L2
local macro_rules | `(tactic| walk_at "lk") => `(tactic| first
  | assumption
  | exact upd_same
  | (refine upd_old (by assumption) ?_; walk_at "lk")
  | (refine upd_diff (by assumption) ?_; walk_at "lk")
  | (refine upd_diff (Ne.symm (by assumption)) ?_; walk_at "lk"))
local macro_rules | `(tactic| walk_at "cnd") => `(tactic| first
  | omega
  | (refine ⟨by omega, by omega⟩)
  | (refine ⟨by omega, by omega, by omega⟩)
  | (refine .inl ⟨by omega, by omega⟩)
  | (refine .inr ⟨by omega, by omega⟩)
  | (exact (show CPow _ _ from ⟨by decide, by decide, by omega⟩))
  | decide +kernel
  | (unfold CMulW; decide +kernel)
  | (exact wide_div (b := 64) (by omega) (by omega) (by decide) (by decide)))
local macro_rules | `(tactic| walk_at "rd1") => `(tactic| first
  | (with_reducible refine r_seq ?_)
  | (with_reducible refine r_asg ?_)
  | (with_reducible refine r_ret ?_)
  | (with_reducible refine r_if ?_)
  | (with_reducible refine r_gname ?_)
  | ((with_reducible refine' r_var ?hv ?_); (case hv => exact rfl))
  | (with_reducible refine r_c ?_)
  | (with_reducible refine r_op ?_)
  | (with_reducible refine r_I0 ?_)
  | ((with_reducible refine r_I ?hc ?_); (case hc => walk_at "cnd"))
  | (with_reducible refine r_test ?_)
  | (with_reducible refine r_tB ?_)
  | (with_reducible refine r_bl ?_)
  | (with_reducible refine r_not ?_)
  | (with_reducible refine r_and ?_)
  | (with_reducible refine r_or ?_)
  | (with_reducible refine r_ifE ?_)
  | (with_reducible refine r_notV ?_)
  | (with_reducible refine r_andV ?_)
  | (with_reducible refine r_orV ?_)
  | (with_reducible refine r_chain ?_)
  | (with_reducible refine r_cb ?_)
  | (with_reducible refine r_call ?_)
  | (with_reducible refine r_callN ?_)
  | (with_reducible refine r_nil ?_)
  | (with_reducible refine r_cons ?_)
  | ((with_reducible refine r_lst ?_))
  | ((with_reducible refine r_tup ?_))
  | ((with_reducible refine r_new ?_ ?_); (exact Nat.le_of_ble_eq_true rfl); (intro p hp))
  | (with_reducible refine r_rInt1 ?_)
  | (with_reducible refine r_rIntB ?_)
  | (with_reducible refine r_rAbs ?_)
  | (with_reducible refine r_rMin2 ?_)
  | (with_reducible refine r_rMax2 ?_)
  | ((with_reducible refine r_rLenZ ?hz ?_); (case hz => first | assumption | exact Nat.le_of_ble_eq_true rfl | (refine Nat.le_trans ?_ (by decide : 100000 ≤ sizeLine); omega)))
  | ((with_reducible refine r_addZ ?hz ?_); (case hz => (refine Nat.le_trans ?_ (by decide : 100000 ≤ sizeLine); first | omega | (simp only [Str.length] at *; simp; omega))))
  | ((with_reducible refine r_mulZ ?hz ?h0 ?h1 ?_); (case hz => first | omega | exact Nat.le_of_ble_eq_true rfl); (case h0 => omega); (case h1 => omega))
  | ((with_reducible refine' r_rLenQ ?h1 ?_); (case h1 => first | (exact .inl (by assumption)) | (exact .inr (by assumption)) | (exact .inl (SqL.of (by walk_at "lk"))) | (exact .inr (SqT.of (by walk_at "lk")))))
  | ((with_reducible refine r_eq ?hs ?_); (case hs => exact rfl))
  | ((with_reducible refine r_ne ?hs ?_); (case hs => exact rfl))
  | (with_reducible refine r_inC ?_)
  | ((with_reducible refine' r_cat ?h1 ?h2 ?h3 ?_); (case h1 => walk_at "lk"); (case h2 => walk_at "lk"); (case h3 => exact Nat.le_of_ble_eq_true rfl); (intro p hp))
  | ((with_reducible refine' r_rep ?h1 ?h2 ?h3 ?h4 ?_); (case h1 => walk_at "lk"); (case h2 => omega); (case h3 => omega); (case h4 => exact Nat.le_of_ble_eq_true rfl); (intro p hp))
  | ((with_reducible refine' r_append ?h1 ?h2 ?_); (case h1 => walk_at "lk"); (case h2 => first | exact (show _ + 1 ≤ sizeLine from Nat.le_of_ble_eq_true rfl) | exact Nat.lt_of_le_of_lt (by omega : _ ≤ 100000) (by decide)))
  | (with_reducible refine r_bm ?_)
  | ((with_reducible refine' r_tyL ?h1 ?_); (case h1 => walk_at "lk"))
  | ((with_reducible refine' r_ixL ?h1 ?h2 ?_); (case h1 => first | assumption | exact SqL.of (by walk_at "lk")); (case h2 => exact rfl))
  | ((with_reducible refine' r_ixT ?h1 ?h2 ?_); (case h1 => first | assumption | exact SqT.of (by walk_at "lk")); (case h2 => exact rfl))
  | (with_reducible refine r_gsub ?_)
  | ((with_reducible refine' r_setL ?h1 ?h2 ?_); (case h1 => walk_at "lk"); (case h2 => exact rfl))
  | (with_reducible refine r_un ?_)
  | (with_reducible refine r_neg ?_)
  | (with_reducible refine r_iteT ?_)
  | (with_reducible refine r_iteNT ?_)
  | (with_reducible refine r_iteNF ?_)
  | (with_reducible refine r_iteF ?_)
  | (with_reducible refine r_next ?_)
  | (with_reducible refine r_drop ?_)
  | (with_reducible refine r_cont ?_)
  | (with_reducible refine r_brk ?_))
local macro_rules | `(tactic| walk_at "ty") => `(tactic| first
  | assumption
  | exact .base (.int _)
  | exact .base (.str _)
  | exact .base (.bl _)
  | exact .base .non
  | exact .byt _
  | exact .base (.lst (by walk_at "lk"))
  | exact .base (.tup (by walk_at "lk")))
local macro_rules | `(tactic| walk_at "rd2") => `(tactic| first
  | walk_at "rd1"
  | ((with_reducible refine' r_isi true ?ht ?hk ?_); (case ht => walk_at "ty"); (case hk => first | assumption | decide +kernel))
  | ((with_reducible refine' r_isi false ?ht ?hk ?_); (case ht => walk_at "ty"); (case hk => first | assumption | decide +kernel))
  | ((with_reducible refine' r_isiT2 true true ?hT ?ht ?hk ?hk2 ?_); (case hT => walk_at "lk"); (case ht => walk_at "ty"); (case hk => decide +kernel); (case hk2 => decide +kernel))
  | ((with_reducible refine' r_isiT2 true false ?hT ?ht ?hk ?hk2 ?_); (case hT => walk_at "lk"); (case ht => walk_at "ty"); (case hk => decide +kernel); (case hk2 => decide +kernel))
  | ((with_reducible refine' r_isiT2 false true ?hT ?ht ?hk ?hk2 ?_); (case hT => walk_at "lk"); (case ht => walk_at "ty"); (case hk => decide +kernel); (case hk2 => decide +kernel))
  | ((with_reducible refine' r_isiT2 false false ?hT ?ht ?hk ?hk2 ?_); (case hT => walk_at "lk"); (case ht => walk_at "ty"); (case hk => decide +kernel); (case hk2 => decide +kernel))
  | (with_reducible refine r_iteNT ?_)
  | ((show (if (!true) = true then _ else _)); refine r_iteNT ?_)
  | (with_reducible refine r_r1 ?_)
  | (with_reducible refine r_maks ?_)
  | (with_reducible refine r_sfld ?_)
  | ((with_reducible refine' r_sfldE ?h1 ?h2 ?h3 ?h4 ?_); (case h1 => walk_at "lk"); (case h2 => assumption); (case h3 => assumption); (case h4 => exact (show _ + 1 ≤ 1000 from Nat.le_of_ble_eq_true rfl)))
  | (with_reducible refine r_fld ?_)
  | (with_reducible refine r_join ?_)
  | (with_reducible refine r_jcons ?_)
  | (with_reducible refine r_jnil ?_)
  | ((with_reducible refine r_rLenY ?hz ?_); (case hz => first | assumption | (refine Nat.le_trans ?_ (by decide : 100000 ≤ sizeLine); omega)))
  | (with_reducible refine r_par ?_)
  | (with_reducible refine r_pair ?_)
  | (with_reducible refine r_par3 ?_)
  | (with_reducible refine r_trip ?_)
  | ((with_reducible refine' r_gtup ?h1 ?h2 ?_); (case h1 => first | assumption | exact SqT.of (by walk_at "lk")); (case h2 => exact rfl))
  | (with_reducible refine r_gcons ?_)
  | (with_reducible refine r_gnil ?_)
  | ((with_reducible refine' r_slL ?h1 ?_); (case h1 => first | assumption | exact SqL.of (by walk_at "lk")); (intro p hp))
  | (with_reducible refine r_iTup ?_)
  | ((with_reducible refine' r_tupE ?h1 ?_); (case h1 => first | assumption | exact SqT.of (by walk_at "lk")))
  | (with_reducible refine r_m1 ?_)
  | (with_reducible refine r_isZ ?_)
  | (with_reducible refine r_sl ?_)
  | (with_reducible refine r_noPart ?_)
  | (with_reducible refine r_part ?_)
  | (with_reducible refine r_partE ?_)
  | ((with_reducible refine r_slS ?hz ?_); (case hz => first | assumption | (refine Nat.le_trans ?_ (by decide : 100000 ≤ sizeLine); omega)))
  | ((with_reducible refine' r_inT ?h1 ?h2 ?h3 ?_); (case h1 => first | assumption | (exact SqT.of (by walk_at "lk"))); (case h2 => exact rfl); (case h3 => exact rfl))
  | ((with_reducible refine' r_inL ?h1 ?h2 ?h3 ?_); (case h1 => first | assumption | (exact SqL.of (by walk_at "lk"))); (case h2 => exact rfl); (case h3 => exact rfl))
  | (with_reducible refine r_lc ?_)
  | (with_reducible refine r_for ?_)
  | (with_reducible refine r_iStr ?_)
  | (with_reducible refine r_strE ?_)
  | (with_reducible refine r_iList ?_)
  | ((with_reducible refine' r_listE ?h1 ?_); (case h1 => first | assumption | exact SqL.of (by walk_at "lk")))
  | (with_reducible refine r_iRng1 ?_)
  | ((with_reducible refine' r_rngE ?h0 ?h1 ?_); (case h0 => first | omega | (split <;> omega)); (case h1 => first | omega | (split <;> omega))))
local macro_rules | `(tactic| walk_at "rd") => `(tactic| (repeat walk_at "rd2"))
local macro_rules | `(tactic| walk_at "st") => `(tactic| (repeat (first
  | (with_reducible refine r_gname ?_)
  | (with_reducible refine r_next ?_)
  | (with_reducible refine r_seq ?_)
  | (with_reducible refine r_asg ?_)
  | (with_reducible refine r_ret ?_)
  | (with_reducible refine r_for ?_)
  | (with_reducible refine r_iRng1 ?_)
  | (with_reducible refine r_iList ?_)
  | (with_reducible refine r_cons ?_)
  | (with_reducible refine r_par ?_)
  | (with_reducible refine r_par3 ?_))))
/-! ### random stamps -/
theorem fresh_new {H H1 : Hp} {p : Addr} {o : HO} (h : H p = none) (e : H1 p = some o) : fresh H H1 p = some o := (fresh_at h).trans e
/-- a value that is right, or wrong -/
def Val (G : Hp) (pr : Tr → Bool) (v : V) (f : Bool) : Prop := ∃ t, Dn G v t ∧ TOk t ∧ PyData.strOk t.shown = true ∧ (∀ z, t = .str z → z.length ≤ 5000) ∧ pr t = !f
theorem Val.same {G G' : Hp} {pr : Tr → Bool} {v : V} {f : Bool} (e : Same G G') (h : Val G pr v f) : Val G' pr v f := by
  obtain ⟨t, d, r⟩ := h
  exact ⟨t, d.same e, r⟩
/-- drawn: the pair at p, its value, whether it is wrong -/
structure Pk (G : Hp) (pr : Tr → Bool) (p : Addr) (v : V) (f : Bool) : Prop where
  at_ : PickAt G p v f
  val : Val G pr v f
theorem Pk.same {G G' : Hp} {pr : Tr → Bool} {p : Addr} {v : V} {f : Bool} (e : Same G G') (h : Pk G pr p v f) : Pk G' pr p v f := ⟨e _ _ h.at_, h.val.same e⟩
theorem sp_pick {a g b : Addr} {gs bs : List V} {H : Hp} {Q : VK} {E : XK} (hs : Src H a) (hg : H g = some (.lst gs)) (hb : H b = some (.lst bs)) (l1 : 0 < gs.length ∧ gs.length ≤ 1000) (l2 : 0 < bs.length ∧ bs.length ≤ 1000) (n1 : g ≠ a) (n2 : b ≠ a)
    (k : ∀ p v f H', H p = none → PickAt H' p v f → (f = false → v ∈ gs) → (f = true → v ∈ bs) → Src H' a → But a H H' → Q (.ref p) H') : spPick ([.ref a, .ref g, .ref b] ++ []) H Q E := ⟨a, g, b, gs, bs, rfl, hs, hg, hb, l1.1, l2.1, l1.2, l2.2, n1, n2, k⟩
def stamp1 (t : Tr) : Bool := t.within 0 4095
def stamp2 (t : Tr) : Bool := t.within 0 8589934591
def shortT : Tr → Bool
  | .str z => decide (z.length ≤ 5000)
  | _ => true
def okT (t : Tr) : Bool := shortT t && (t.ok && (t.small && (decide (t.depth < 6) && (decide (t.shown.length ≤ 20000) && PyData.strOk t.shown))))
theorem okT_ok {t : Tr} (h : okT t = true) : TOk t ∧ PyData.strOk t.shown = true ∧ ∀ z, t = .str z → z.length ≤ 5000 := by
  simp only [okT, Bool.and_eq_true, decide_eq_true_eq] at h
  obtain ⟨h0, h⟩ := h
  exact ⟨⟨h.1, h.2.1, h.2.2.1, Nat.le_trans h.2.2.2.1 (by decide)⟩, h.2.2.2.2, fun z e => by
    subst e
    exact of_decide_eq_true h0⟩
theorem val_mk {G : Hp} {pr : Tr → Bool} {v : V} {f : Bool} (t : Tr) (d : Dn G v t) (h : (okT t && (pr t == !f)) = true) : Val G pr v f := by
  simp only [Bool.and_eq_true, beq_iff_eq] at h
  exact ⟨t, d, (okT_ok h.1).1, (okT_ok h.1).2.1, (okT_ok h.1).2.2, h.2⟩
theorem fresh_but {a : Addr} {H H1 H2 : Hp} (hs : Src H a) (y : But a H1 H2) : Same (fresh H H1) (fresh H H2) := fun b o e => by
  cases h : H b with
  | none =>
    rw [fresh_at h] at e ⊢
    exact y b o (hs.ne h) e
  | some u =>
    unfold fresh at e
    rw [h] at e
    cases e
theorem none_but {a p : Addr} {H H1 : Hp} (y : But a H H1) (hs : Src H a) (hs1 : Src H1 a) (h : H1 p = none) : H p = none := y.back0 hs hs1 h
theorem none_upd {p b : Addr} {o : HO} {H : Hp} (h : upd H b o p = none) : H p = none := by
  by_cases e : p = b
  · rw [e, upd_same] at h
    cases h
  · rw [upd_ne e] at h
    exact h
def spRSt : Sp := fun vs H Q _ => ∃ a, vs = [.ref a] ∧ Src H a ∧ ∀ p b t x y f1 f2 H', H p = none → fresh H H' p = some (.tup [.ref b, .ref t]) → Pk (fresh H H') stamp1 b x f1 → Pk (fresh H H') stamp2 t y f2 → Src H' a → But a H H' → Q (.ref p) H'
section
variable {P : Program} {w : World} {K : PySem.W.Frag} {mg : Str → Option Value} {base : Heap}
theorem ok_rst {f : Addr} {fd : FuncData} {k : Nat} (F : Fun K "_law_random_stamps" "_law_random_stamps" s__law_random_stamps f fd) (c_pick : CalT P w K mg base 4 "_law_pick" spPick) : FnOk P w K mg base CX0 (k + 6) f fd ["_law_source_here"] spRSt := by
  refine F.ok sc__law_random_stamps (fun vs H Q E h => ?_) (fun cdv A outer s H vs Q E hr h => ?_)
  · obtain ⟨a, rfl, _⟩ := h
    rfl
  · obtain ⟨a, rfl, hs, q⟩ := h
    have hu := hu_of hr
    have nd := sc__law_random_stamps.nd
    refine ⟨_, (pss_cons (ps_set (i := 1) nd rfl (Or.inl rfl) (pe_cc c_pick hr (by omega) (by rfl) (pa_cons (pv 0) (pa_cons (pe_lst (pa_cons pe_int (pa_cons pe_int (pa_cons pe_int pa_nil)))) (pa_cons (pe_lst (pa_cons (pe_un un_neg pe_int) (pa_cons pe_int (pa_cons pe_bl (pa_cons pe_non (pa_cons pe_str (pa_cons (pe_lst (pa_cons pe_int pa_nil)) (pa_cons (pe_op op_pow pe_int pe_int) pa_nil)))))))) pa_nil)))))
      (pss_one (ps_ret (pe_tup (pa_cons (pv 1) (pa_cons (pe_cc c_pick hr (by omega) (by rfl) (pa_cons (pv 0) (pa_cons (pe_lst (pa_cons pe_int (pa_cons pe_int (pa_cons pe_int pa_nil)))) (pa_cons (pe_lst (pa_cons (pe_un un_neg pe_int) (pa_cons pe_int (pa_cons pe_bl (pa_cons pe_non (pa_cons pe_str (pa_cons (pe_tup (pa_cons pe_int pa_nil)) (pa_cons (pe_op op_pow pe_int pe_int) pa_nil)))))))) pa_nil)))) pa_nil)))))), ?_⟩
    walk_at "rd"
    rename_i g1 hg1 e1 he1 b1 hb1
    have ng : g1 ≠ b1 := fun z => by
      rw [← z, upd_ne (ne_of_none upd_same he1), upd_same] at hb1
      cases hb1
    refine sp_pick (((hs.new hg1).new he1).new hb1) ((upd_ne ng).trans ((upd_ne (ne_of_none upd_same he1)).trans upd_same)) upd_same ⟨Nat.le_of_ble_eq_true rfl, Nat.le_of_ble_eq_true rfl⟩ ⟨Nat.le_of_ble_eq_true rfl, Nat.le_of_ble_eq_true rfl⟩ (hs.ne hg1) ((((hs.new hg1).new he1)).ne hb1) (fun p v f1 H1 hp at1 w1 w2 hs1 but1 => ?_)
    have he1H : H e1 = none := none_upd he1
    have hpH : H p = none := none_upd (none_upd (none_upd hp))
    have E1 : fresh H H1 e1 = some (.lst [.int 0]) := fresh_new he1H (but1 e1 _ (hs.ne he1H) (upd_old hb1 upd_same))
    have P1 : fresh H H1 p = some (.tup [v, .bl f1]) := fresh_new hpH at1
    have v1 : Val (fresh H H1) stamp1 v f1 := by
      cases f1 with
      | false =>
        have z := w1 rfl
        simp only [List.mem_cons, List.not_mem_nil, or_false] at z
        rcases z with rfl | rfl | rfl
        · exact val_mk (.int 0) (.int 0) (by decide +kernel)
        · exact val_mk (.int 4095) (.int 4095) (by decide +kernel)
        · exact val_mk (.int 511) (.int 511) (by decide +kernel)
      | true =>
        have z := w2 rfl
        simp only [List.mem_cons, List.not_mem_nil, or_false] at z
        rcases z with rfl | rfl | rfl | rfl | rfl | rfl | rfl
        · exact val_mk (.int (-1)) (.int (-1)) (by decide +kernel)
        · exact val_mk (.int 4096) (.int 4096) (by decide +kernel)
        · exact val_mk (.bl true) (.bl true) (by decide +kernel)
        · exact val_mk .non .non (by decide +kernel)
        · exact val_mk (.str "0") (.str "0") (by decide +kernel)
        · exact val_mk (.lst [.int 0]) (.lst E1 (.cons (.int 0) .nil)) (by decide +kernel)
        · exact val_mk (.int (10 ^ Int.toNat 50)) (.int (10 ^ Int.toNat 50)) (by decide +kernel)
    clear w1 w2
    walk_at "rd"
    rename_i g2 hg2 e2 he2 b2 hb2
    have ng2 : g2 ≠ b2 := fun z => by
      rw [← z, upd_ne (ne_of_none upd_same he2), upd_same] at hb2
      cases hb2
    refine sp_pick (((hs1.new hg2).new he2).new hb2) ((upd_ne ng2).trans ((upd_ne (ne_of_none upd_same he2)).trans upd_same)) upd_same ⟨Nat.le_of_ble_eq_true rfl, Nat.le_of_ble_eq_true rfl⟩ ⟨Nat.le_of_ble_eq_true rfl, Nat.le_of_ble_eq_true rfl⟩ (hs1.ne hg2) ((((hs1.new hg2).new he2)).ne hb2) (fun p2 u f2 H2 hp2 at2 w1 w2 hs2 but2 => ?_)
    have but12 : But a H1 H2 := But.new hg2 (But.new he2 (But.new hb2 but2))
    have butA : But a H H1 := But.new hg1 (But.new he1 (But.new hb1 but1))
    have he2H : H e2 = none := none_but butA hs hs1 (none_upd he2)
    have hp2H : H p2 = none := none_but butA hs hs1 (none_upd (none_upd (none_upd hp2)))
    have E2 : fresh H H2 e2 = some (.tup [.int 0]) := fresh_new he2H (but2 e2 _ (hs.ne he2H) (upd_old hb2 upd_same))
    have P2 : fresh H H2 p2 = some (.tup [u, .bl f2]) := fresh_new hp2H at2
    have v2 : Val (fresh H H2) stamp2 u f2 := by
      cases f2 with
      | false =>
        have z := w1 rfl
        simp only [List.mem_cons, List.not_mem_nil, or_false] at z
        rcases z with rfl | rfl | rfl
        · exact val_mk (.int 0) (.int 0) (by decide +kernel)
        · exact val_mk (.int 8589934591) (.int 8589934591) (by decide +kernel)
        · exact val_mk (.int 5) (.int 5) (by decide +kernel)
      | true =>
        have z := w2 rfl
        simp only [List.mem_cons, List.not_mem_nil, or_false] at z
        rcases z with rfl | rfl | rfl | rfl | rfl | rfl | rfl
        · exact val_mk (.int (-1)) (.int (-1)) (by decide +kernel)
        · exact val_mk (.int 8589934592) (.int 8589934592) (by decide +kernel)
        · exact val_mk (.bl false) (.bl false) (by decide +kernel)
        · exact val_mk .non .non (by decide +kernel)
        · exact val_mk (.str "0") (.str "0") (by decide +kernel)
        · exact val_mk (.tup [.int 0]) (.tup E2 (.cons (.int 0) .nil)) (by decide +kernel)
        · exact val_mk (.int (10 ^ Int.toNat 50)) (.int (10 ^ Int.toNat 50)) (by decide +kernel)
    walk_at "rd"
    rename_i p3 hp3
    have hp3H : H p3 = none := none_but (butA.trans but12) hs hs2 hp3
    have sm : Same (fresh H H2) (fresh H (upd H2 p3 (.tup [.ref p, .ref p2]))) := fresh_but hs (Same.but (same_new hp3))
    have sm1 : Same (fresh H H1) (fresh H (upd H2 p3 (.tup [.ref p, .ref p2]))) := fun b o e => sm b o (fresh_but hs but12 b o e)
    exact q p3 p p2 v u f1 f2 _ hp3H (fresh_new hp3H upd_same) ⟨sm1 _ _ P1, v1.same sm1⟩ ⟨sm _ _ P2, v2.same sm⟩ (hs2.new hp3) ((butA.trans but12).trans (Same.but (same_new hp3)))
end
end Th
namespace Th
open PySem PySem.Spec PyProof.Rows L2
local macro_rules | `(tactic| walk_at "lk") => `(tactic| first
  | assumption
  | exact upd_same
  | (refine upd_old (by assumption) ?_; walk_at "lk")
  | (refine upd_diff (by assumption) ?_; walk_at "lk")
  | (refine upd_diff (Ne.symm (by assumption)) ?_; walk_at "lk"))
local macro_rules | `(tactic| walk_at "cnd") => `(tactic| first
  | omega
  | (refine ⟨by omega, by omega⟩)
  | (refine ⟨by omega, by omega, by omega⟩)
  | (refine .inl ⟨by omega, by omega⟩)
  | (refine .inr ⟨by omega, by omega⟩)
  | (exact (show CPow _ _ from ⟨by decide, by decide, by omega⟩))
  | decide +kernel
  | (unfold CMulW; decide +kernel)
  | (exact wide_div (b := 64) (by omega) (by omega) (by decide) (by decide)))
local macro_rules | `(tactic| walk_at "rd1") => `(tactic| first
  | (with_reducible refine r_seq ?_)
  | (with_reducible refine r_asg ?_)
  | (with_reducible refine r_ret ?_)
  | (with_reducible refine r_if ?_)
  | (with_reducible refine r_gname ?_)
  | ((with_reducible refine' r_var ?hv ?_); (case hv => exact rfl))
  | (with_reducible refine r_c ?_)
  | (with_reducible refine r_op ?_)
  | (with_reducible refine r_I0 ?_)
  | ((with_reducible refine r_I ?hc ?_); (case hc => walk_at "cnd"))
  | (with_reducible refine r_test ?_)
  | (with_reducible refine r_tB ?_)
  | (with_reducible refine r_bl ?_)
  | (with_reducible refine r_not ?_)
  | (with_reducible refine r_and ?_)
  | (with_reducible refine r_or ?_)
  | (with_reducible refine r_ifE ?_)
  | (with_reducible refine r_notV ?_)
  | (with_reducible refine r_andV ?_)
  | (with_reducible refine r_orV ?_)
  | (with_reducible refine r_chain ?_)
  | (with_reducible refine r_cb ?_)
  | (with_reducible refine r_call ?_)
  | (with_reducible refine r_callN ?_)
  | (with_reducible refine r_nil ?_)
  | (with_reducible refine r_cons ?_)
  | ((with_reducible refine r_lst ?_))
  | ((with_reducible refine r_tup ?_))
  | ((with_reducible refine r_new ?_ ?_); (exact Nat.le_of_ble_eq_true rfl); (intro p hp))
  | (with_reducible refine r_rInt1 ?_)
  | (with_reducible refine r_rIntB ?_)
  | (with_reducible refine r_rAbs ?_)
  | (with_reducible refine r_rMin2 ?_)
  | (with_reducible refine r_rMax2 ?_)
  | ((with_reducible refine r_rLenZ ?hz ?_); (case hz => first | assumption | exact Nat.le_of_ble_eq_true rfl | (refine Nat.le_trans ?_ (by decide : 100000 ≤ sizeLine); omega)))
  | ((with_reducible refine r_addZ ?hz ?_); (case hz => (refine Nat.le_trans ?_ (by decide : 100000 ≤ sizeLine); first | omega | (simp only [Str.length] at *; simp; omega))))
  | ((with_reducible refine r_mulZ ?hz ?h0 ?h1 ?_); (case hz => first | omega | exact Nat.le_of_ble_eq_true rfl); (case h0 => omega); (case h1 => omega))
  | ((with_reducible refine' r_rLenQ ?h1 ?_); (case h1 => first | (exact .inl (by assumption)) | (exact .inr (by assumption)) | (exact .inl (SqL.of (by walk_at "lk"))) | (exact .inr (SqT.of (by walk_at "lk")))))
  | ((with_reducible refine r_eq ?hs ?_); (case hs => exact rfl))
  | ((with_reducible refine r_ne ?hs ?_); (case hs => exact rfl))
  | (with_reducible refine r_inC ?_)
  | ((with_reducible refine' r_cat ?h1 ?h2 ?h3 ?_); (case h1 => walk_at "lk"); (case h2 => walk_at "lk"); (case h3 => exact Nat.le_of_ble_eq_true rfl); (intro p hp))
  | ((with_reducible refine' r_rep ?h1 ?h2 ?h3 ?h4 ?_); (case h1 => walk_at "lk"); (case h2 => omega); (case h3 => omega); (case h4 => exact Nat.le_of_ble_eq_true rfl); (intro p hp))
  | ((with_reducible refine' r_append ?h1 ?h2 ?_); (case h1 => walk_at "lk"); (case h2 => first | exact (show _ + 1 ≤ sizeLine from Nat.le_of_ble_eq_true rfl) | exact Nat.lt_of_le_of_lt (by omega : _ ≤ 100000) (by decide)))
  | (with_reducible refine r_bm ?_)
  | ((with_reducible refine' r_tyL ?h1 ?_); (case h1 => walk_at "lk"))
  | ((with_reducible refine' r_ixL ?h1 ?h2 ?_); (case h1 => first | assumption | exact SqL.of (by walk_at "lk")); (case h2 => exact rfl))
  | ((with_reducible refine' r_ixT ?h1 ?h2 ?_); (case h1 => first | assumption | exact SqT.of (by walk_at "lk")); (case h2 => exact rfl))
  | (with_reducible refine r_gsub ?_)
  | ((with_reducible refine' r_setL ?h1 ?h2 ?_); (case h1 => walk_at "lk"); (case h2 => exact rfl))
  | (with_reducible refine r_un ?_)
  | (with_reducible refine r_neg ?_)
  | (with_reducible refine r_iteT ?_)
  | (with_reducible refine r_iteNT ?_)
  | (with_reducible refine r_iteNF ?_)
  | (with_reducible refine r_iteF ?_)
  | (with_reducible refine r_next ?_)
  | (with_reducible refine r_drop ?_)
  | (with_reducible refine r_cont ?_)
  | (with_reducible refine r_brk ?_))
local macro_rules | `(tactic| walk_at "ty") => `(tactic| first
  | assumption
  | exact .base (.int _)
  | exact .base (.str _)
  | exact .base (.bl _)
  | exact .base .non
  | exact .byt _
  | exact .base (.lst (by walk_at "lk"))
  | exact .base (.tup (by walk_at "lk")))
local macro_rules | `(tactic| walk_at "rd2") => `(tactic| first
  | walk_at "rd1"
  | ((with_reducible refine' r_isi true ?ht ?hk ?_); (case ht => walk_at "ty"); (case hk => first | assumption | decide +kernel))
  | ((with_reducible refine' r_isi false ?ht ?hk ?_); (case ht => walk_at "ty"); (case hk => first | assumption | decide +kernel))
  | ((with_reducible refine' r_isiT2 true true ?hT ?ht ?hk ?hk2 ?_); (case hT => walk_at "lk"); (case ht => walk_at "ty"); (case hk => decide +kernel); (case hk2 => decide +kernel))
  | ((with_reducible refine' r_isiT2 true false ?hT ?ht ?hk ?hk2 ?_); (case hT => walk_at "lk"); (case ht => walk_at "ty"); (case hk => decide +kernel); (case hk2 => decide +kernel))
  | ((with_reducible refine' r_isiT2 false true ?hT ?ht ?hk ?hk2 ?_); (case hT => walk_at "lk"); (case ht => walk_at "ty"); (case hk => decide +kernel); (case hk2 => decide +kernel))
  | ((with_reducible refine' r_isiT2 false false ?hT ?ht ?hk ?hk2 ?_); (case hT => walk_at "lk"); (case ht => walk_at "ty"); (case hk => decide +kernel); (case hk2 => decide +kernel))
  | (with_reducible refine r_iteNT ?_)
  | ((show (if (!true) = true then _ else _)); refine r_iteNT ?_)
  | (with_reducible refine r_r1 ?_)
  | (with_reducible refine r_maks ?_)
  | (with_reducible refine r_sfld ?_)
  | ((with_reducible refine' r_sfldE ?h1 ?h2 ?h3 ?h4 ?_); (case h1 => walk_at "lk"); (case h2 => assumption); (case h3 => assumption); (case h4 => exact (show _ + 1 ≤ 1000 from Nat.le_of_ble_eq_true rfl)))
  | (with_reducible refine r_fld ?_)
  | (with_reducible refine r_join ?_)
  | (with_reducible refine r_jcons ?_)
  | (with_reducible refine r_jnil ?_)
  | ((with_reducible refine r_rLenY ?hz ?_); (case hz => first | assumption | (refine Nat.le_trans ?_ (by decide : 100000 ≤ sizeLine); omega)))
  | (with_reducible refine r_par ?_)
  | (with_reducible refine r_pair ?_)
  | (with_reducible refine r_par3 ?_)
  | (with_reducible refine r_trip ?_)
  | ((with_reducible refine' r_gtup ?h1 ?h2 ?_); (case h1 => first | assumption | exact SqT.of (by walk_at "lk")); (case h2 => exact rfl))
  | (with_reducible refine r_gcons ?_)
  | (with_reducible refine r_gnil ?_)
  | ((with_reducible refine' r_slL ?h1 ?_); (case h1 => first | assumption | exact SqL.of (by walk_at "lk")); (intro p hp))
  | (with_reducible refine r_iTup ?_)
  | ((with_reducible refine' r_tupE ?h1 ?_); (case h1 => first | assumption | exact SqT.of (by walk_at "lk")))
  | (with_reducible refine r_m1 ?_)
  | (with_reducible refine r_isZ ?_)
  | (with_reducible refine r_sl ?_)
  | (with_reducible refine r_noPart ?_)
  | (with_reducible refine r_part ?_)
  | (with_reducible refine r_partE ?_)
  | ((with_reducible refine r_slS ?hz ?_); (case hz => first | assumption | (refine Nat.le_trans ?_ (by decide : 100000 ≤ sizeLine); omega)))
  | ((with_reducible refine' r_inT ?h1 ?h2 ?h3 ?_); (case h1 => first | assumption | (exact SqT.of (by walk_at "lk"))); (case h2 => exact rfl); (case h3 => exact rfl))
  | ((with_reducible refine' r_inL ?h1 ?h2 ?h3 ?_); (case h1 => first | assumption | (exact SqL.of (by walk_at "lk"))); (case h2 => exact rfl); (case h3 => exact rfl))
  | (with_reducible refine r_lc ?_)
  | (with_reducible refine r_for ?_)
  | (with_reducible refine r_iStr ?_)
  | (with_reducible refine r_strE ?_)
  | (with_reducible refine r_iList ?_)
  | ((with_reducible refine' r_listE ?h1 ?_); (case h1 => first | assumption | exact SqL.of (by walk_at "lk")))
  | (with_reducible refine r_iRng1 ?_)
  | ((with_reducible refine' r_rngE ?h0 ?h1 ?_); (case h0 => first | omega | (split <;> omega)); (case h1 => first | omega | (split <;> omega))))
local macro_rules | `(tactic| walk_at "rd") => `(tactic| (repeat walk_at "rd2"))
local macro_rules | `(tactic| walk_at "st") => `(tactic| (repeat (first
  | (with_reducible refine r_gname ?_)
  | (with_reducible refine r_next ?_)
  | (with_reducible refine r_seq ?_)
  | (with_reducible refine r_asg ?_)
  | (with_reducible refine r_ret ?_)
  | (with_reducible refine r_for ?_)
  | (with_reducible refine r_iRng1 ?_)
  | (with_reducible refine r_iList ?_)
  | (with_reducible refine r_cons ?_)
  | (with_reducible refine r_par ?_)
  | (with_reducible refine r_par3 ?_))))
section
variable {P : Program} {w : World} {K : PySem.W.Frag} {mg : Str → Option Value} {base : Heap}
def inByte (i : Int) : Bool := decide (0 ≤ i) && decide (i ≤ 255)
def spRow : Sp := fun vs H Q _ => ∃ (a : Addr) (ns : List Int), vs = [.ref a] ∧ H a = some (.lst (ns.map V.int)) ∧ ns.length ≤ 70000 ∧ ∀ H', Same H H' → Q (.bl (ns.all inByte)) H'
theorem ok_row {f : Addr} {fd : FuncData} {k : Nat} (F : Fun K "is_row_of_bytes" "is_row_of_bytes" s_is_row_of_bytes f fd) (c_within : CalT P w K mg base 2 "is_integer_within" spWithin)
    (m1 : mg "isinstance" = none) (m2 : mg "list" = none) (m3 : mg "tuple" = none) (m4 : mg "all" = none) : FnOk P w K mg base CX0 (k + 3) f fd ["thing"] spRow := by
  refine F.ok sc_is_row_of_bytes (fun vs H Q E h => ?_) (fun cdv A outer s H vs Q E hr h => ?_)
  · obtain ⟨a, ns, rfl, _⟩ := h
    rfl
  · obtain ⟨a, ns, rfl, ha, hz, q⟩ := h
    have hu := hu_of hr
    have nd := sc_is_row_of_bytes.nd
    refine ⟨_, (pss_cons (ps_if (pt_not (pt_val (pe_callB (call_isiK2 K) (by rfl) (by assumption) (by decide +kernel) (pa_cons (pv 0) (pa_cons (pe_tup (pa_cons (pe_bltn (v := .ty "list") (by rfl) (by assumption) (by decide +kernel) rfl) (pa_cons (pe_bltn (v := .ty "tuple") (by rfl) (by assumption) (by decide +kernel) rfl) pa_nil))) pa_nil)))))
        (pss_one (ps_ret pe_bl))
        pss_nil)
      (pss_one (ps_ret (pe_callB (call_allK K) (by rfl) (by assumption) (by decide +kernel) (pa_cons (pe_lc (own := [("number", 1)]) (g := (gName 1)) (tt := tYes) rfl nd (pi_list (pv 0)) (blkOk_by (N := N_is_row_of_bytes) (sc := defScope s_is_row_of_bytes) (by decide +kernel)) (fun _ _ _ _ _ => (pg_name (i := 1) nd rfl (Or.inl rfl))) (fun _ _ _ _ _ => pts_nil) (fun _ _ _ _ _ => (pe_cc c_within hr (by omega) (by rfl) (pa_cons (pv 1) (pa_cons pe_int (pa_cons pe_int pa_nil)))))) pa_nil))))), ?_⟩
    walk_at "rd"
    intro D hD
    refine lc_map (cs := ns) (enc := V.int) (f := fun i => V.bl (inByte i)) walk_list hD (Nat.lt_of_le_of_lt hz (by decide)) (fun H' e => SqL.of (e _ _ (by walk_at "lk"))) (fun x => rfl) ?_ ?_
    · intro c hc H' e Q' k'
      walk_at "rd"
      exact sp_within (.int c) (k' _ (Same.refl _))
    · intro H' e hl
      walk_at "rd"
      refine r_all (bs := ns.map inByte) (by rw [List.map_map]; exact SqL.of hl) ?_
      have e2 : (ns.map inByte).all id = ns.all inByte := by rw [List.all_map]; rfl
      rw [e2]
      exact q H' (fun b o x => e b o (by walk_at "lk"))
theorem sp_row {a : Addr} {ns : List Int} {H : Hp} {Q : VK} {E : XK} (ha : H a = some (.lst (ns.map V.int))) (hz : ns.length ≤ 70000) (k : ∀ H', Same H H' → Q (.bl (ns.all inByte)) H') : spRow ([.ref a] ++ []) H Q E := ⟨a, ns, rfl, ha, hz, k⟩
def spBlob : Sp := fun vs H Q _ => ∃ (a : Addr) (ns : List Int), vs = [.ref a] ∧ H a = some (.lst (ns.map V.int)) ∧ ns.length ≤ 70000 ∧ ns.all inByte = true ∧ ∀ H', Same H H' → Q (.byt (byteArr ns)) H'
theorem sp_blob {a : Addr} {ns : List Int} {H : Hp} {Q : VK} {E : XK} (ha : H a = some (.lst (ns.map V.int))) (hz : ns.length ≤ 70000) (hb : ns.all inByte = true) (k : ∀ H', Same H H' → Q (.byt (byteArr ns)) H') : spBlob ([.ref a] ++ []) H Q E := ⟨a, ns, rfl, ha, hz, hb, k⟩
theorem ok_blob {f : Addr} {fd : FuncData} {k : Nat} (F : Fun K "blob" "blob" s_blob f fd) (c_row : CalT P w K mg base 3 "is_row_of_bytes" spRow) (m1 : mg "bytes" = none) : FnOk P w K mg base CX0 (k + 4) f fd ["numbers"] spBlob := by
  refine F.ok sc_blob (fun vs H Q E h => ?_) (fun cdv A outer s H vs Q E hr h => ?_)
  · obtain ⟨a, ns, rfl, _⟩ := h
    rfl
  · obtain ⟨a, ns, rfl, ha, hz, hb, q⟩ := h
    have hu := hu_of hr
    have nd := sc_blob.nd
    refine ⟨_, (pss_cons (ps_if (pt_not (pt_val (pe_cc c_row hr (by omega) (by rfl) (pa_cons (pv 0) pa_nil))))
        (pss_one ps_never)
        pss_nil)
      (pss_one (ps_ret (pe_bytesOf rfl (by rfl) (by assumption) (pv 0))))), ?_⟩
    walk_at "rd"
    refine sp_row ha hz (fun H' e => ?_)
    rw [hb]
    walk_at "rd"
    refine r_bytesL (SqL.of (e _ _ ha)) (fun n hn => ?_) (q H' e)
    have h1 := List.all_eq_true.mp hb n hn
    unfold inByte at h1
    simp only [Bool.and_eq_true, decide_eq_true_eq] at h1
    omega
/-! ### names that are none -/
def spWrong : Sp := fun vs H Q _ => vs = [] ∧ ∀ p xs H', H p = none → Same H H' → H' p = some (.lst xs) → 0 < xs.length → xs.length ≤ 1000 → (∀ v ∈ xs, Val (fresh H H') Tr.nameB v true) → Q (.ref p) H'
theorem ok_wrong {f : Addr} {fd : FuncData} {k : Nat} (F : Fun K "_law_wrong_names" "_law_wrong_names" s__law_wrong_names f fd) (c_blob : CalT P w K mg base 4 "blob" spBlob) : FnOk P w K mg base CX0 (k + 5) f fd [] spWrong := by
  refine F.ok sc__law_wrong_names (fun vs H Q E h => ?_) (fun cdv A outer s H vs Q E hr h => ?_)
  · rw [h.1]
    rfl
  · obtain ⟨rfl, q⟩ := h
    have hu := hu_of hr
    have nd := sc__law_wrong_names.nd
    refine ⟨_, (pss_one (ps_ret (pe_lst (pa_cons pe_str (pa_cons pe_str (pa_cons pe_str (pa_cons (pe_op op_mulS pe_str pe_int) (pa_cons pe_non (pa_cons pe_int (pa_cons pe_bl (pa_cons (pe_lst (pa_cons pe_str pa_nil)) (pa_cons (pe_tup (pa_cons pe_str pa_nil)) (pa_cons pe_str (pa_cons pe_str (pa_cons (pe_cc c_blob hr (by omega) (by rfl) (pa_cons (pe_lst (pa_cons pe_int pa_nil)) pa_nil)) pa_nil))))))))))))))), ?_⟩
    walk_at "rd"
    rename_i l1 hl1 t1 ht1 b1 hb1
    refine sp_blob (ns := [97]) upd_same (by decide) (by decide) (fun H1 e1 => ?_)
    walk_at "rd"
    rename_i p hp
    have l1H : H l1 = none := hl1
    have t1H : H t1 = none := none_upd ht1
    have hpH : H p = none := none_upd (none_upd (none_upd (none_same e1 hp)))
    have up : ∀ b o, upd (upd H l1 (.lst [.str "a"])) t1 (.tup [.str "a"]) b = some o → upd H1 p (.lst (V.str (Str.ofString "") :: V.str (Str.ofString "A") :: V.str (Str.ofString "a b") :: V.str (repZ (Str.ofString "a") 251) :: V.non :: V.int 7 :: V.bl true :: V.ref l1 :: V.ref t1 :: V.str (Str.ofString "a@") :: V.str (Str.ofString "a~") :: V.byt (byteArr [97]) :: [])) b = some o := fun b o e => upd_old hp (e1 b o (upd_old hb1 e))
    have L1 := fresh_new l1H (up l1 _ (upd_old ht1 upd_same))
    have T1 := fresh_new t1H (up t1 _ upd_same)
    refine q p _ _ hpH (fun b o e => up b o (upd_old ht1 (upd_old hl1 e))) upd_same (Nat.le_of_ble_eq_true rfl) (Nat.le_of_ble_eq_true rfl) (fun v hv => ?_)
    simp only [List.mem_cons, List.not_mem_nil, or_false] at hv
    rcases hv with rfl | rfl | rfl | rfl | rfl | rfl | rfl | rfl | rfl | rfl | rfl | rfl
    · exact val_mk (.str "") (.str _) (by decide +kernel)
    · exact val_mk (.str "A") (.str _) (by decide +kernel)
    · exact val_mk (.str "a b") (.str _) (by decide +kernel)
    · exact val_mk (.str (repZ "a" 251)) (.str _) (by decide +kernel)
    · exact val_mk .non .non (by decide +kernel)
    · exact val_mk (.int 7) (.int _) (by decide +kernel)
    · exact val_mk (.bl true) (.bl _) (by decide +kernel)
    · exact val_mk (.lst [.str "a"]) (.lst L1 (.cons (.str _) .nil)) (by decide +kernel)
    · exact val_mk (.tup [.str "a"]) (.tup T1 (.cons (.str _) .nil)) (by decide +kernel)
    · exact val_mk (.str "a@") (.str _) (by decide +kernel)
    · exact val_mk (.str "a~") (.str _) (by decide +kernel)
    · exact val_mk (.byt (byteArr [97])) (.byt _) (by decide +kernel)
end
end Th
/-! a list comprehension whose element leans on how the def's own names stood when its block began -/
namespace Th
open PySem PySem.Spec PyProof.Rows L2
section
variable {X : Cx}
theorem pe_lcI {elt tg iter : Expr} {bs : Scope} {own : List (Str × Nat)} {pos : Pos} {wi : TI} {g : TG} {te : L2.St → TE} (calm : X.calm = true) (nodup : X.N.Nodup) (walk : PI X tg iter wi) (blk : BlkOk X.N X.env.scope bs own)
    (aim : ∀ (s : Shared) (H : Hp) (C : Addr) (cl : List (Str × Addr)) (fp : List Addr), PG (X.blk s H bs (compEnvC bs cl C X.env) fp) tg g)
    (each : ∀ (pins : List (Addr × Obj)) (σ : L2.St) (s : Shared) (H : Hp) (C : Addr) (cl : List (Str × Addr)) (fp : List Addr), Inv X pins σ H s → (∀ b ∈ fp, FpOk X pins H b) → PE (X.blk s H bs (compEnvC bs cl C X.env) fp) elt (te σ))
    (unfolded : ∀ x, foldedSetIterable iter X.env x = pure x := by intro _; rfl) : PE X (.ListComp elt [⟨tg, iter, [], 0⟩] bs pos) (fun σ H Q => tLc wi g tYes (te σ) (own.map (·.2)) σ H Q) := by
  constructor
  intro pins s σ H Q I told
  rw [eval_ListComp]
  have caught : ∀ y ∈ bs.names, y.2 = .free → ∃ c, X.env.cells.lookup y.1 = some c := fun y hy e => (blk.free y hy e).elim (fun k => I.ok.has _ (.inl k)) (fun k => I.ok.has _ (.inr k))
  refine wpAny_comprehension_free rfl unfolded (closure_ok caught) blk.kind (fun y hy e => by rw [blk.uniq y hy, e]) (thn (walk.run pins s σ H _ I told) fun xv sA gotA => thn gotA fun itv sB gotB => ?_)
  obtain ⟨it, fp, tn, J, HB, same, IB, T, tn0, fpB, wish⟩ := gotB
  subst same
  refine wpAny_newObj_type (newEnv_comp ?_) (by show 0 ≤ sizeLine; decide)
  generalize eL : sB.heap.objs.size = L
  obtain ⟨W, ⟨m0, w0⟩, turn⟩ := wish L (IB.hok.fresh (Nat.le_of_eq eL))
  -- the new list is laid
  generalize eC : ({ sB with heap := sB.heap.push { cls := .type "list", data := .seq ([] : List Value).toArray } } : Shared) = sC
  have heapC : sC.heap = sB.heap.push { cls := .type "list", data := .seq ([] : List Value).toArray } := by rw [← eC]
  have IC : Inv X pins σ (upd HB L (.lst [])) sC := by
    rw [← eC]
    refine IB.laid (t' := sB.toks) (fun b u z => Heap.get?_push_of_some _ z) (Nat.le_of_eq eL) ⟨Nat.zero_le _, [], 0, .nil, ?_⟩
    rw [← eL]
    exact Heap.get?_push_size _ rfl
  have old : ∀ b ∈ fp, b < sB.heap.objs.size := fun b hb => by
    obtain ⟨u, z, _⟩ := T.obj _ _ tn0 b hb
    exact Heap.lt_size z
  have fpC : ∀ b ∈ fp, FpOk X pins (upd HB L (.lst [])) b ∧ b < sC.heap.objs.size := fun b hb => by
    have lt := old b hb
    have ne : b ≠ L := by rw [← eL]; exact Nat.ne_of_lt lt
    exact ⟨⟨(upd_ne ne).trans (fpB b hb).1, (fpB b hb).2⟩, by rw [heapC, Heap.size_push]; exact Nat.lt_succ_of_lt lt⟩
  have tnC : tn 0 sC.heap := T.keep _ _ _ tn0 fun b _ u z => by rw [heapC]; exact Heap.get?_push_of_some _ z
  have ID := block_start IC blk nodup fpC
  have pg := aim sC (upd HB L (.lst [])) sC.heap.objs.size (cellsFrom (sC.heap.objs.size + 1) bs.names (cloFrom X.env.cells bs.names [])) fp
  have pe := each pins σ sC (upd HB L (.lst [])) sC.heap.objs.size (cellsFrom (sC.heap.objs.size + 1) bs.names (cloFrom X.env.cells bs.names [])) fp IC fun b hb => (fpC b hb).1
  show codeAny _ _ (.compStart (.ListComp elt [⟨tg, iter, [], 0⟩] bs pos) 0 (.ref it) (.ref L) (compEnvC bs (cellsFrom (sC.heap.objs.size + 1) bs.names (cloFrom X.env.cells bs.names [])) sC.heap.objs.size X.env)) _ { sC with heap := pushCells (sC.heap.push { cls := .type "dict", data := .dict #[] }) bs.names }
  have untracked : ∀ b ∈ fp, (upd HB L (.lst [])) b = none := fun b hb => (fpC b hb).1.1
  generalize eE : compEnvC bs (cellsFrom (sC.heap.objs.size + 1) bs.names (cloFrom X.env.cells bs.names [])) sC.heap.objs.size X.env = ce at ID pg pe ⊢
  have atL : ce.locals = sC.heap.objs.size := by subst eE; rfl
  generalize eH : upd HB L (.lst []) = HC at IC ID pg pe w0 untracked fpC
  generalize eD : ({ sC with heap := pushCells (sC.heap.push { cls := .type "dict", data := .dict #[] }) bs.names } : Shared) = sD at ID ⊢
  have tnD : tn 0 sD.heap := T.keep _ _ _ tnC fun b _ u z => by rw [← eD]; exact pushCells_keeps _ _ _ _ (Heap.get?_push_of_some _ z)
  have fpOf : ∀ {τ : L2.St} {G : Hp} {t : Shared}, Inv (X.blk sC HC bs ce fp) [] τ G t → (∀ b ∈ fp, G b = none) → ∀ b ∈ fp, FpOk (X.blk sC HC bs ce fp) [] G b := fun {τ G t} IG n b hb => by
    refine ⟨n b hb, (IG.ok.exf b hb).1, IG.ok.exfs b hb, .inl hb, fun x c z => (IG.ok.exf b hb).2 x c z, fun p hp => ?_⟩
    have hp : p ∈ ([] : List (Addr × Obj)) ++ [] := hp
    simp at hp
  refine codeAny_compStart_list (?_ : codeAny (model X.prog X.w) X.A (.compLoop (.ListComp elt [⟨tg, iter, [], 0⟩] bs pos) 0 (.ref it) (.ref L) ce) _ sD) (T.self X.A 0 _ _ _ tnD ?_)
  all_goals
    refine compLoop_any (fun n t => ∃ i G, Inv (X.blk sC HC bs ce fp) [] (wipe σ (own.map (·.2))) G t ∧ tn i t.heap ∧ (∀ b ∈ fp, G b = none) ∧ W i n G) ?_ m0 ⟨0, HC, ID, tnD, untracked, w0⟩
    rintro n sE ⟨i, HE, IE, tnE, noE, wE⟩
    cases turn i n HE wE with
    | inl over =>
      have ended := T.done (X.blk sC HC bs ce fp) rfl rfl rfl calm i [] sE _ HE (fun _ _ => False) IE (fpOf IE noE) tnE over.1
      refine thnF ended fun r sF gotF => ?_
      obtain ⟨rfl, IF_⟩ := gotF
      have back : Inv X pins σ HE sF := IC.call' (ch := fp) IF_.os IF_.base IF_.hok IF_.bare fun b hb => ⟨(fpC b hb).1.2.2.2.1, (fpC b hb).1.2.1, (fpC b hb).1.2.2.2.2.1, (fpC b hb).1.2.2.2.2.2⟩
      have noL : HE sC.heap.objs.size = none := by
        have z : HE ce.locals = none := IF_.free
        rw [atL] at z
        exact z
      obtain ⟨m, isNs, _⟩ := IF_.loc
      have isNs : sF.heap.Ns ce.locals m := isNs
      rw [atL] at isNs
      refine ⟨m, isNs, fun h2 sub => ?_⟩
      obtain ⟨f0, f1, f2, f3, f4, f5⟩ := IC.fpOk (Nat.le_refl _) noL
      exact ⟨.ref L, HE, back.turned (t' := sF.toks) (fun b u hb z => (sub.2 b hb).trans z) f0 f1 f3 f4 f5, rfl, over.2⟩
    | inr goes =>
      obtain ⟨go, Nx, next, step⟩ := goes
      have item := T.item (X.blk sC HC bs ce fp) rfl rfl rfl calm i [] sE _ HE (fun _ _ => False) IE (fpOf IE noE) tnE go
      refine thnF item fun r sF gotF => ?_
      obtain ⟨u, rfl, gotF⟩ := gotF
      refine thnF gotF fun _ sG gotG => ?_
      obtain ⟨x, HG, IG, rel, yld, tnG, noG⟩ := gotG
      have pinned := IG.pinned (fpOf IG noG) (T.obj _ _ tnG)
      refine thnF (pg.run _ sG _ HG x u _ pinned rel (step x HG yld)) fun _ sH gotH => ?_
      obtain ⟨τ, HH, IH, wiped, wishH⟩ := gotH
      have finish : ∀ {t : Shared} {G : Hp}, Inv (X.blk sC HC bs ce fp) ([] ++ pinsAt fp sG.heap) τ G t → Nx G → ∃ m, m < n ∧ ∃ i G, Inv (X.blk sC HC bs ce fp) [] (wipe σ (own.map (·.2))) G t ∧ tn i t.heap ∧ (∀ b ∈ fp, G b = none) ∧ W i m G := fun {t G} It nx => by
        obtain ⟨m', less, w'⟩ := next _ nx
        have kept : ∀ b ∈ fp, ∀ o, sG.heap.get? b = some o → t.heap.get? b = some o ∧ G b = none := fun b hb o e =>
          let p := It.pin (b, o) (List.mem_append_right _ (List.mem_append_right _ (mem_pinsAt hb e)))
          ⟨p.1, p.2.1⟩
        have len : (wipe σ (own.map (·.2))).length = τ.length := by rw [← wiped, wipe_length]
        refine ⟨m', less, i + 1, G, (It.unpinned (pins := [])).weak len (fun j v e => ?_), T.keep _ _ _ tnG fun b hb o e => (kept b hb o e).1, fun b hb => ?_, w'⟩
        · rw [← wiped] at e
          exact (wipe_some e).1
        · obtain ⟨o, e, _⟩ := T.obj _ _ tnG b hb
          exact (kept b hb o e).2
      refine thnF ((pts_nil (X := X.blk sC HC bs ce fp)).run _ sH τ HH _ IH wishH) fun yes sI gotI => ?_
      obtain ⟨HI, II, wishI⟩ := gotI
      cases yes with
      | false =>
        simp only [Bool.false_eq_true, if_false] at wishI ⊢
        exact finish II wishI
      | true =>
        simp only [if_true] at wishI ⊢
        refine thnF (pe.run _ sI τ HI _ II wishI) fun z sJ gotJ => ?_
        obtain ⟨y, HJ, IJ, relY, acc, atD, room, nx⟩ := gotJ
        exact app_ok (X := X.blk sC HC bs ce fp) IJ atD room relY fun sK IK => finish IK nx
end
end Th
namespace Th
open PySem PySem.Spec PyProof.Rows L2
local macro_rules | `(tactic| walk_at "lk") => `(tactic| first
  | assumption
  | exact upd_same
  | (refine upd_old (by assumption) ?_; walk_at "lk")
  | (refine upd_diff (by assumption) ?_; walk_at "lk")
  | (refine upd_diff (Ne.symm (by assumption)) ?_; walk_at "lk"))
local macro_rules | `(tactic| walk_at "cnd") => `(tactic| first
  | omega
  | (refine ⟨by omega, by omega⟩)
  | (refine ⟨by omega, by omega, by omega⟩)
  | (refine .inl ⟨by omega, by omega⟩)
  | (refine .inr ⟨by omega, by omega⟩)
  | (exact (show CPow _ _ from ⟨by decide, by decide, by omega⟩))
  | decide +kernel
  | (unfold CMulW; decide +kernel)
  | (exact wide_div (b := 64) (by omega) (by omega) (by decide) (by decide)))
local macro_rules | `(tactic| walk_at "rd1") => `(tactic| first
  | (with_reducible refine r_seq ?_)
  | (with_reducible refine r_asg ?_)
  | (with_reducible refine r_ret ?_)
  | (with_reducible refine r_if ?_)
  | (with_reducible refine r_gname ?_)
  | ((with_reducible refine' r_var ?hv ?_); (case hv => exact rfl))
  | (with_reducible refine r_c ?_)
  | (with_reducible refine r_op ?_)
  | (with_reducible refine r_I0 ?_)
  | ((with_reducible refine r_I ?hc ?_); (case hc => walk_at "cnd"))
  | (with_reducible refine r_test ?_)
  | (with_reducible refine r_tB ?_)
  | (with_reducible refine r_bl ?_)
  | (with_reducible refine r_not ?_)
  | (with_reducible refine r_and ?_)
  | (with_reducible refine r_or ?_)
  | (with_reducible refine r_ifE ?_)
  | (with_reducible refine r_notV ?_)
  | (with_reducible refine r_andV ?_)
  | (with_reducible refine r_orV ?_)
  | (with_reducible refine r_chain ?_)
  | (with_reducible refine r_cb ?_)
  | (with_reducible refine r_call ?_)
  | (with_reducible refine r_callN ?_)
  | (with_reducible refine r_nil ?_)
  | (with_reducible refine r_cons ?_)
  | ((with_reducible refine r_lst ?_))
  | ((with_reducible refine r_tup ?_))
  | ((with_reducible refine r_new ?_ ?_); (exact Nat.le_of_ble_eq_true rfl); (intro p hp))
  | (with_reducible refine r_rInt1 ?_)
  | (with_reducible refine r_rIntB ?_)
  | (with_reducible refine r_rAbs ?_)
  | (with_reducible refine r_rMin2 ?_)
  | (with_reducible refine r_rMax2 ?_)
  | ((with_reducible refine r_rLenZ ?hz ?_); (case hz => first | assumption | exact Nat.le_of_ble_eq_true rfl | (refine Nat.le_trans ?_ (by decide : 100000 ≤ sizeLine); omega)))
  | ((with_reducible refine r_addZ ?hz ?_); (case hz => (refine Nat.le_trans ?_ (by decide : 100000 ≤ sizeLine); first | omega | (simp only [Str.length] at *; simp; omega))))
  | ((with_reducible refine r_mulZ ?hz ?h0 ?h1 ?_); (case hz => first | omega | exact Nat.le_of_ble_eq_true rfl); (case h0 => omega); (case h1 => omega))
  | ((with_reducible refine' r_rLenQ ?h1 ?_); (case h1 => first | (exact .inl (by assumption)) | (exact .inr (by assumption)) | (exact .inl (SqL.of (by walk_at "lk"))) | (exact .inr (SqT.of (by walk_at "lk")))))
  | ((with_reducible refine r_eq ?hs ?_); (case hs => exact rfl))
  | ((with_reducible refine r_ne ?hs ?_); (case hs => exact rfl))
  | (with_reducible refine r_inC ?_)
  | ((with_reducible refine' r_cat ?h1 ?h2 ?h3 ?_); (case h1 => walk_at "lk"); (case h2 => walk_at "lk"); (case h3 => exact Nat.le_of_ble_eq_true rfl); (intro p hp))
  | ((with_reducible refine' r_rep ?h1 ?h2 ?h3 ?h4 ?_); (case h1 => walk_at "lk"); (case h2 => omega); (case h3 => omega); (case h4 => exact Nat.le_of_ble_eq_true rfl); (intro p hp))
  | ((with_reducible refine' r_append ?h1 ?h2 ?_); (case h1 => walk_at "lk"); (case h2 => first | exact (show _ + 1 ≤ sizeLine from Nat.le_of_ble_eq_true rfl) | exact Nat.lt_of_le_of_lt (by omega : _ ≤ 100000) (by decide)))
  | (with_reducible refine r_bm ?_)
  | ((with_reducible refine' r_tyL ?h1 ?_); (case h1 => walk_at "lk"))
  | ((with_reducible refine' r_ixL ?h1 ?h2 ?_); (case h1 => first | assumption | exact SqL.of (by walk_at "lk")); (case h2 => exact rfl))
  | ((with_reducible refine' r_ixT ?h1 ?h2 ?_); (case h1 => first | assumption | exact SqT.of (by walk_at "lk")); (case h2 => exact rfl))
  | (with_reducible refine r_gsub ?_)
  | ((with_reducible refine' r_setL ?h1 ?h2 ?_); (case h1 => walk_at "lk"); (case h2 => exact rfl))
  | (with_reducible refine r_un ?_)
  | (with_reducible refine r_neg ?_)
  | (with_reducible refine r_iteT ?_)
  | (with_reducible refine r_iteNT ?_)
  | (with_reducible refine r_iteNF ?_)
  | (with_reducible refine r_iteF ?_)
  | (with_reducible refine r_next ?_)
  | (with_reducible refine r_drop ?_)
  | (with_reducible refine r_cont ?_)
  | (with_reducible refine r_brk ?_))
local macro_rules | `(tactic| walk_at "ty") => `(tactic| first
  | assumption
  | exact .base (.int _)
  | exact .base (.str _)
  | exact .base (.bl _)
  | exact .base .non
  | exact .byt _
  | exact .base (.lst (by walk_at "lk"))
  | exact .base (.tup (by walk_at "lk")))
local macro_rules | `(tactic| walk_at "rd2") => `(tactic| first
  | walk_at "rd1"
  | ((with_reducible refine' r_isi true ?ht ?hk ?_); (case ht => walk_at "ty"); (case hk => first | assumption | decide +kernel))
  | ((with_reducible refine' r_isi false ?ht ?hk ?_); (case ht => walk_at "ty"); (case hk => first | assumption | decide +kernel))
  | ((with_reducible refine' r_isiT2 true true ?hT ?ht ?hk ?hk2 ?_); (case hT => walk_at "lk"); (case ht => walk_at "ty"); (case hk => decide +kernel); (case hk2 => decide +kernel))
  | ((with_reducible refine' r_isiT2 true false ?hT ?ht ?hk ?hk2 ?_); (case hT => walk_at "lk"); (case ht => walk_at "ty"); (case hk => decide +kernel); (case hk2 => decide +kernel))
  | ((with_reducible refine' r_isiT2 false true ?hT ?ht ?hk ?hk2 ?_); (case hT => walk_at "lk"); (case ht => walk_at "ty"); (case hk => decide +kernel); (case hk2 => decide +kernel))
  | ((with_reducible refine' r_isiT2 false false ?hT ?ht ?hk ?hk2 ?_); (case hT => walk_at "lk"); (case ht => walk_at "ty"); (case hk => decide +kernel); (case hk2 => decide +kernel))
  | (with_reducible refine r_iteNT ?_)
  | ((show (if (!true) = true then _ else _)); refine r_iteNT ?_)
  | (with_reducible refine r_r1 ?_)
  | (with_reducible refine r_maks ?_)
  | (with_reducible refine r_sfld ?_)
  | ((with_reducible refine' r_sfldE ?h1 ?h2 ?h3 ?h4 ?_); (case h1 => walk_at "lk"); (case h2 => assumption); (case h3 => assumption); (case h4 => exact (show _ + 1 ≤ 1000 from Nat.le_of_ble_eq_true rfl)))
  | (with_reducible refine r_fld ?_)
  | (with_reducible refine r_join ?_)
  | (with_reducible refine r_jcons ?_)
  | (with_reducible refine r_jnil ?_)
  | ((with_reducible refine r_rLenY ?hz ?_); (case hz => first | assumption | (refine Nat.le_trans ?_ (by decide : 100000 ≤ sizeLine); omega)))
  | (with_reducible refine r_par ?_)
  | (with_reducible refine r_pair ?_)
  | (with_reducible refine r_par3 ?_)
  | (with_reducible refine r_trip ?_)
  | ((with_reducible refine' r_gtup ?h1 ?h2 ?_); (case h1 => first | assumption | exact SqT.of (by walk_at "lk")); (case h2 => exact rfl))
  | (with_reducible refine r_gcons ?_)
  | (with_reducible refine r_gnil ?_)
  | ((with_reducible refine' r_slL ?h1 ?_); (case h1 => first | assumption | exact SqL.of (by walk_at "lk")); (intro p hp))
  | (with_reducible refine r_iTup ?_)
  | ((with_reducible refine' r_tupE ?h1 ?_); (case h1 => first | assumption | exact SqT.of (by walk_at "lk")))
  | (with_reducible refine r_m1 ?_)
  | (with_reducible refine r_isZ ?_)
  | (with_reducible refine r_sl ?_)
  | (with_reducible refine r_noPart ?_)
  | (with_reducible refine r_part ?_)
  | (with_reducible refine r_partE ?_)
  | ((with_reducible refine r_slS ?hz ?_); (case hz => first | assumption | (refine Nat.le_trans ?_ (by decide : 100000 ≤ sizeLine); omega)))
  | ((with_reducible refine' r_inT ?h1 ?h2 ?h3 ?_); (case h1 => first | assumption | (exact SqT.of (by walk_at "lk"))); (case h2 => exact rfl); (case h3 => exact rfl))
  | ((with_reducible refine' r_inL ?h1 ?h2 ?h3 ?_); (case h1 => first | assumption | (exact SqL.of (by walk_at "lk"))); (case h2 => exact rfl); (case h3 => exact rfl))
  | (with_reducible refine r_lc ?_)
  | (with_reducible refine r_for ?_)
  | (with_reducible refine r_iStr ?_)
  | (with_reducible refine r_strE ?_)
  | (with_reducible refine r_iList ?_)
  | ((with_reducible refine' r_listE ?h1 ?_); (case h1 => first | assumption | exact SqL.of (by walk_at "lk")))
  | (with_reducible refine r_iRng1 ?_)
  | ((with_reducible refine' r_rngE ?h0 ?h1 ?_); (case h0 => first | omega | (split <;> omega)); (case h1 => first | omega | (split <;> omega))))
local macro_rules | `(tactic| walk_at "rd") => `(tactic| (repeat walk_at "rd2"))
local macro_rules | `(tactic| walk_at "st") => `(tactic| (repeat (first
  | (with_reducible refine r_gname ?_)
  | (with_reducible refine r_next ?_)
  | (with_reducible refine r_seq ?_)
  | (with_reducible refine r_asg ?_)
  | (with_reducible refine r_ret ?_)
  | (with_reducible refine r_for ?_)
  | (with_reducible refine r_iRng1 ?_)
  | (with_reducible refine r_iList ?_)
  | (with_reducible refine r_cons ?_)
  | (with_reducible refine r_par ?_)
  | (with_reducible refine r_par3 ?_))))
def tOr (a b : TE) : TE := fun σ H Q => a σ H Q ∨ b σ H Q
theorem pe_or2 {X : Cx} {e : Expr} {a b : TE} (h1 : PE X e a) (h2 : PE X e b) : PE X e (tOr a b) :=
  ⟨fun pins s σ H Q I h => h.elim (fun h => h1.run pins s σ H Q I h) (fun h => h2.run pins s σ H Q I h)⟩
theorem r_orL {a b : TE} {σ : L2.St} {H : Hp} {Q : VK} (h : a σ H Q) : tOr a b σ H Q := .inl h
theorem r_orR {a b : TE} {σ : L2.St} {H : Hp} {Q : VK} (h : b σ H Q) : tOr a b σ H Q := .inr h
/-! ### links, directories -/
open LamX (Tabs TabB ExtN)
structure Ek where
  D : Addr
  Y : Addr
  L : Addr
def pX (sp : Sp) : List V → List V → Hp → VK → XK → Prop := fun vs zs H Q E => sp (vs ++ zs) H Q E
/-! ### a deed: a member is made, or what is wrong first is told -/
def VdIs (c : Ec) (vd : Vd) (due : Option (Str × Tr)) : Prop := (vd = .ok ∧ due = none) ∨ ∃ C kind fld t, vd = .err C fld t ∧ (C, kind, fld) ∈ etab c ∧ due = some (kind, t) ∧ TOk t
theorem deed_run {c : Ec} {vd : Vd} {due : Option (Str × Tr)} {H : Hp} {x : Addr} {E : XK} {R Qc : VK} (is : VdIs c vd due)
    (hE : ∀ kl dd G, deedE c (fun kind t G => ∀ p G', Same G G' → G' p = some (.lst [.str kind, .str t.shown, .bl true]) → Qc (.ref p) G') kl dd G → E kl dd G) (hR : ∀ v G, (∀ p G', Same G G' → G' p = some (.lst [.str "none", .str "", .bl true]) → Qc (.ref p) G') → R v G)
    (k : ∀ p G', Frame x H G' → G' p = some (.lst (dueV due)) → Qc (.ref p) G') : vd.run H (∀ G, Frame x H G → (fun v H3 => v = V.non ∧ R (.ref x) H3) .non G) E := by
  rcases is with ⟨rfl, rfl⟩ | ⟨C, kind, fld, t, rfl, mem, rfl, ok⟩
  · exact fun G fr => ⟨rfl, hR _ _ fun p G' sm hp => k p G' (fun b o n e => sm b o (fr b o n e)) hp⟩
  · exact fun y dx G sm hx dn => hE _ _ _ ⟨C, kind, fld, dx, y, t, mem, rfl, rfl, hx, dn, ok, fun p G' sm2 hp => k p G' (fun b o _ e => sm2 b o (sm b o e)) hp⟩
theorem frame_new {H2 G : Hp} {x dx : Addr} {fs : List (Str × V)} {C : Addr} (hx : H2 x = none) (hd : H2 dx = none) (fr : Frame x (upd (upd H2 dx (.own x)) x (.ins C dx fs)) G) : Same H2 G := fun b o e => by
  refine fr b o (ne_of_none e hx) ?_
  rw [upd_ne (ne_of_none e hx), upd_ne (ne_of_none e hd)]
  exact e
/-! ### lists and tuples stay -/
structure LT (G G' : Hp) : Prop where
  l : ∀ b xs, G b = some (.lst xs) → G' b = some (.lst xs)
  t : ∀ b xs, G b = some (.tup xs) → G' b = some (.tup xs)
  d : ∀ b, G b = some (.dK []) → G' b = some (.dK [])
theorem LT.of {G G' : Hp} (e : Same G G') : LT G G' := ⟨fun b xs h => e b _ h, fun b xs h => e b _ h, fun b h => e b _ h⟩
theorem LT.ext {G G' : Hp} (e : ExtN G G') : LT G G' := ⟨fun b xs h => e b _ h (fun _ z => nomatch z), fun b xs h => e b _ h (fun _ z => nomatch z), fun b h => e b _ h (fun _ z => nomatch z)⟩
theorem LT.trans {G G1 G2 : Hp} (a : LT G G1) (b : LT G1 G2) : LT G G2 := ⟨fun c xs h => b.l c xs (a.l c xs h), fun c xs h => b.t c xs (a.t c xs h), fun c h => b.d c (a.d c h)⟩
mutual
theorem Dn.lt {H H' : Hp} (e : LT H H') : ∀ {v : V} {t : Tr}, Dn H v t → Dn H' v t
  | _, _, .non => .non
  | _, _, .bl _ => .bl _
  | _, _, .int _ => .int _
  | _, _, .str _ => .str _
  | _, _, .byt _ => .byt _
  | _, _, .lst h d => .lst (e.l _ _ h) (DnA.lt e d)
  | _, _, .tup h d => .tup (e.t _ _ h) (DnA.lt e d)
  | _, _, .emp h => .emp (e.d _ h)
theorem DnA.lt {H H' : Hp} (e : LT H H') : ∀ {xs : List V} {ts : List Tr}, DnA H xs ts → DnA H' xs ts
  | _, _, .nil => .nil
  | _, _, .cons a r => .cons (Dn.lt e a) (DnA.lt e r)
end
theorem Val.lt {G G' : Hp} {pr : Tr → Bool} {v : V} {f : Bool} (e : LT G G') (h : Val G pr v f) : Val G' pr v f := by
  obtain ⟨t, d, r⟩ := h
  exact ⟨t, d.lt e, r⟩
theorem Pk.lt {G G' : Hp} {pr : Tr → Bool} {p : Addr} {v : V} {f : Bool} (e : LT G G') (h : Pk G pr p v f) : Pk G' pr p v f := ⟨e.t _ _ h.at_, h.val.lt e⟩
/-- all but a and the tables stay -/
def ButN (a : Addr) (H H' : Hp) : Prop := ∀ b o, b ≠ a → H b = some o → (∀ ps, o ≠ .tbl ps) → H' b = some o
theorem But.n {a : Addr} {H H' : Hp} (h : But a H H') : ButN a H H' := fun b o n e _ => h b o n e
theorem ButN.ext {a : Addr} {H H' : Hp} (h : ExtN H H') : ButN a H H' := fun b o _ e n => h b o e n
theorem ButN.trans {a : Addr} {H H1 H2 : Hp} (x : ButN a H H1) (y : ButN a H1 H2) : ButN a H H2 := fun b o n e m => y b o n (x b o n e m) m
theorem fresh_butN {a : Addr} {H H1 H2 : Hp} (hs : Src H a) (y : ButN a H1 H2) : LT (fresh H H1) (fresh H H2) := by
  have key : ∀ b o, (∀ ps, o ≠ .tbl ps) → fresh H H1 b = some o → fresh H H2 b = some o := fun b o n e => by
    cases h : H b with
    | none =>
      rw [fresh_at h] at e ⊢
      exact y b o (hs.ne h) e n
    | some u =>
      unfold fresh at e
      rw [h] at e
      cases e
  exact ⟨fun b xs e => key b _ (fun _ z => nomatch z) e, fun b xs e => key b _ (fun _ z => nomatch z) e, fun b e => key b _ (fun _ z => nomatch z) e⟩
theorem Src.ext {H H' : Hp} {a : Addr} (e : ExtN H H') (h : Src H a) : Src H' a := by
  obtain ⟨l, m, c, h1, h2⟩ := h
  exact ⟨l, m, c, e _ _ h1 (fun _ z => nomatch z), h2⟩
theorem Tabs.but {T : List (Addr × Str)} {a : Addr} {H H' : Hp} (t : Tabs T H) (hs : Src H a) (b : But a H H') : Tabs T H' := fun p hp => by
  obtain ⟨ps, h1, h2, h3⟩ := t p hp
  obtain ⟨l, m, c, ha, _⟩ := hs
  refine ⟨ps, b _ _ (fun z => by rw [z, ha] at h1; cases h1) h1, h2, fun pos cv hc => ?_⟩
  obtain ⟨c0, e1, e2⟩ := h3 pos cv hc
  refine ⟨c0, e1, b _ _ (fun z => ?_) e2⟩
  rw [z, ha] at e2
  unfold LamX.CodeO at e2
  cases e2
/-! ### what is told beside what is due -/
theorem due_dp {K : PySem.W.Frag} {H : Hp} {p : Addr} {d : Option (Str × Tr)} (h : H p = some (.lst (dueV d))) (ok : ∀ k t, d = some (k, t) → PyData.strOk k = true ∧ PyData.strOk t.shown = true) : ∃ e, Dp K H (.ref p) e ∧ SeqAt.shaped e = true ∧ PyData.eqv e e = true := by
  cases d with
  | none => exact ⟨.list [.str "none", .str "", .bool true], .lst (SqL.of h) (.cons (.str _) (.cons (.str _) (.cons (.bl _) .nil))), by decide +kernel, by decide +kernel⟩
  | some q =>
    obtain ⟨k, t⟩ := q
    obtain ⟨o1, o2⟩ := ok k t rfl
    refine ⟨.list [.str k, .str t.shown, .bool true], .lst (SqL.of h) (.cons (.str _) (.cons (.str _) (.cons (.bl _) .nil))), ?_, ?_⟩
    · simp [SeqAt.shaped, PyData.canLay0, PyData.canLayAll0, PyData.depth, PyData.depthAll, o1, o2]
    · simp [PyData.eqv, PyData.eqvAll]
theorem call_lnk {c : Ec} {K : PySem.W.Frag} {T : List (Addr × Str)} {te : TE} {q : Str} {ps : Arguments} {bd : Expr} {sc : Scope} {cl : List (Str × Addr)} {C : Addr} {i j l m : Nat} {pn pg pb pt : Addr} {n g b u : V} {f1 f0 f2 f3 : Bool} {due : Option (Str × Tr)} {σ ms : L2.St} {H : Hp} {Qc : VK}
    (hi : ms[i]? = some (some (.ref pn))) (hm : ms[m]? = some (some (.ref pg))) (hj : ms[j]? = some (some (.ref pb))) (hl : ms[l]? = some (some (.ref pt)))
    (k1 : ∀ Q' : VK, (∀ f cc H1, ExtN H H1 → Tabs T H1 → H1 f = some (LamO q ps bd sc cl cc f) → H1 cc = some (LamX.CodeO cc q) → Q' (.ref f) H1) → te σ H Q')
    (a1 : PickAt H pn n f1) (a0 : PickAt H pg g f0) (a2 : PickAt H pb b f2) (a3 : PickAt H pt u f3) (tn tg tb tu : Tr) (d1 : Dn H n tn) (d0 : Dn H g tg) (d2 : Dn H b tb) (d3 : Dn H u tu) (o1 : NmOk tn) (o0 : NmOk tg) (o2 : TOk tb) (o3 : TOk tu)
    (is : VdIs c (vName c tn (vName c tg (vStamp c tb tu))) due) (k : ∀ p G, ExtN H G → Tabs T G → G p = some (.lst (dueV due)) → Qc (.ref p) G) :
    tCallT te q ps bd sc cl (TTerr c) (fun E _ => tMakX (pX (spLnkX c C)) 2 C E (tCons (tOp (rIxT K) (tVar i) (tC (.int 0))) (tCons (tOp (rIxT K) (tVar m) (tC (.int 0))) tNil)) (tCons (tOp (rIxT K) (tVar j) (tC (.int 0))) (tCons (tOp (rIxT K) (tVar l) (tC (.int 0))) tNil)) ms) σ H Qc := by
  refine k1 _ fun f cc H1 ext tabs1 hf hcc => ⟨f, cc, rfl, hf, hcc, fun E R hE hR => ?_⟩
  have lt := LT.ext ext
  refine r_makX (r_cons (r_op (r_var hi (r_c (r_ixT (SqT.of (lt.t _ _ a1)) rfl (r_cons (r_op (r_var hm (r_c (r_ixT (SqT.of (lt.t _ _ a0)) rfl (r_nil ?_)))))))))))
  refine r_cons (r_op (r_var hj (r_c (r_ixT (SqT.of (lt.t _ _ a2)) rfl (r_cons (r_op (r_var hl (r_c (r_ixT (SqT.of (lt.t _ _ a3)) rfl (r_nil ⟨rfl, fun x dx hx hd nd => ?_⟩))))))))))
  have sm : Same H1 (upd (upd H1 dx (.own x)) x (.ins C dx [])) := frame_new hx hd (fun _ _ _ e => e)
  have lt2 := lt.trans (LT.of sm)
  refine ⟨x, dx, n, g, b, u, tn, tg, tb, tu, rfl, upd_same, d1.lt lt2, d0.lt lt2, d2.lt lt2, d3.lt lt2, o1, o0, o2, o3, deed_run is hE hR fun p G fr hp => ?_⟩
  have sm2 : Same H1 G := frame_new hx hd fr
  exact k p G (fun b o e no => sm2 b o (ext b o e no)) (LamX.Tabs.ext tabs1 sm2) hp
theorem lamV_k1 {T : List (Addr × Str)} {q : Str} {ps : Arguments} {bd : Expr} {sc : Scope} {cl : List (Str × Addr)} {σ : L2.St} {H : Hp} (tabs : Tabs T H) :
    ∀ Q' : VK, (∀ f cc H1, ExtN H H1 → Tabs T H1 → H1 f = some (LamO q ps bd sc cl cc f) → H1 cc = some (LamX.CodeO cc q) → Q' (.ref f) H1) → tLamV T q ps bd sc cl σ H Q' := fun Q' k =>
  ⟨tabs, fun f cc H1 e t hf hc => k f cc _ (fun b o eb n => upd_old hf (e b o eb n)) (LamX.Tabs.ext t (same_new hf)) upd_same (upd_old hf hc)⟩
theorem vd_stamp {c : Ec} {tb tu : Tr} {f2 f3 : Bool} (h2 : stamp1 tb = !f2) (h3 : stamp2 tu = !f3) (o2 : TOk tb) (o3 : TOk tu) : VdIs c (vStamp c tb tu) (stDue f2 f3 tb tu) := by
  cases f2 with
  | true => exact .inr ⟨c.M, "mode", "mode", tb, vStamp_m h2, by simp [etab], rfl, o2⟩
  | false =>
    cases f3 with
    | true => exact .inr ⟨c.T, "time", "time", tu, vStamp_t h2 h3, by simp [etab], rfl, o3⟩
    | false => exact .inl ⟨vStamp_ok h2 h3, rfl⟩
def nmDue (f : Bool) (t : Tr) (due : Option (Str × Tr)) : Option (Str × Tr) := if f = true then some ("name", t) else due
theorem vd_name {c : Ec} {tn : Tr} {f1 : Bool} {r : Vd} {due : Option (Str × Tr)} (h1 : tn.nameB = !f1) (o1 : TOk tn) (is : VdIs c r due) : VdIs c (vName c tn r) (nmDue f1 tn due) := by
  cases f1 with
  | true => exact .inr ⟨c.N, "name", "name", tn, vName_no h1, by simp [etab], rfl, o1⟩
  | false =>
    rw [vName_ok h1]
    exact is
def dueOk (d : Option (Str × Tr)) : Prop := ∀ k t, d = some (k, t) → PyData.strOk k = true ∧ PyData.strOk t.shown = true
theorem dueOk_st {f2 f3 : Bool} {tb tu : Tr} (h2 : PyData.strOk tb.shown = true) (h3 : PyData.strOk tu.shown = true) : dueOk (stDue f2 f3 tb tu) := fun k t e => by
  unfold stDue at e
  cases f2 with
  | true =>
    cases Option.some.inj e
    exact ⟨by decide +kernel, h2⟩
  | false =>
    cases f3 with
    | true =>
      cases Option.some.inj e
      exact ⟨by decide +kernel, h3⟩
    | false => cases e
theorem dueOk_nm {f : Bool} {t : Tr} {d : Option (Str × Tr)} (h : PyData.strOk t.shown = true) (hd : dueOk d) : dueOk (nmDue f t d) := fun k u e => by
  unfold nmDue at e
  cases f with
  | true =>
    cases Option.some.inj e
    exact ⟨by decide +kernel, h⟩
  | false => exact hd k u e
theorem val_up {a : Addr} {H0 Hx H1 H2 : Hp} {pr : Tr → Bool} {v : V} {f : Bool} (hs : Src Hx a) (n0 : ∀ b, Hx b = none → H0 b = none) (b2 : But a H1 H2) (h : Val (fresh Hx H1) pr v f) : Val (fresh H0 H2) pr v f := h.same fun b o e => by
  have hb : Hx b = none := by
    cases q0 : Hx b with
    | none => rfl
    | some u =>
      unfold fresh at e
      rw [q0] at e
      cases e
  rw [fresh_at hb] at e
  exact fresh_new (n0 b hb) (b2 b o (hs.ne hb) e)
theorem pk_up {H0 Hx H1 : Hp} {pr : Tr → Bool} {p : Addr} {v : V} {f : Bool} (n0 : ∀ b, Hx b = none → H0 b = none) (h : Pk (fresh Hx H1) pr p v f) : Pk (fresh H0 H1) pr p v f := h.same fun b o e => by
  have hb : Hx b = none := by
    cases q0 : Hx b with
    | none => rfl
    | some u =>
      unfold fresh at e
      rw [q0] at e
      cases e
  rw [fresh_at hb] at e
  exact fresh_new (n0 b hb) e
theorem r_asgP {te : TE} {g : TG} {D : Ends} {σ : L2.St} {H : Hp} (P : V → Hp → Prop) (k : ∀ v H', P v H' → g v σ H' D.nx) (h : ∀ Q' : VK, (∀ v H', P v H' → Q' v H') → te σ H Q') : tAsg te g D σ H := h _ k
theorem r_ifP {c : TT} {t u : TS} {D : Ends} {σ : L2.St} {H : Hp} (P : L2.St → Hp → Prop) (k : ∀ σ' H', P σ' H' → D.nx σ' H') (h : ∀ D' : Ends, (∀ σ' H', P σ' H' → D'.nx σ' H') → tIfS c t u D' σ H) : tIfS c t u D σ H := h D k
end Th
namespace Th
open PySem PySem.Spec PyProof.Rows L2
local macro_rules | `(tactic| walk_at "lk") => `(tactic| first
  | assumption
  | exact upd_same
  | (refine upd_old (by assumption) ?_; walk_at "lk")
  | (refine upd_diff (by assumption) ?_; walk_at "lk")
  | (refine upd_diff (Ne.symm (by assumption)) ?_; walk_at "lk"))
local macro_rules | `(tactic| walk_at "cnd") => `(tactic| first
  | omega
  | (refine ⟨by omega, by omega⟩)
  | (refine ⟨by omega, by omega, by omega⟩)
  | (refine .inl ⟨by omega, by omega⟩)
  | (refine .inr ⟨by omega, by omega⟩)
  | (exact (show CPow _ _ from ⟨by decide, by decide, by omega⟩))
  | decide +kernel
  | (unfold CMulW; decide +kernel)
  | (exact wide_div (b := 64) (by omega) (by omega) (by decide) (by decide)))
local macro_rules | `(tactic| walk_at "rd1") => `(tactic| first
  | (with_reducible refine r_seq ?_)
  | (with_reducible refine r_asg ?_)
  | (with_reducible refine r_ret ?_)
  | (with_reducible refine r_if ?_)
  | (with_reducible refine r_gname ?_)
  | ((with_reducible refine' r_var ?hv ?_); (case hv => exact rfl))
  | (with_reducible refine r_c ?_)
  | (with_reducible refine r_op ?_)
  | (with_reducible refine r_I0 ?_)
  | ((with_reducible refine r_I ?hc ?_); (case hc => walk_at "cnd"))
  | (with_reducible refine r_test ?_)
  | (with_reducible refine r_tB ?_)
  | (with_reducible refine r_bl ?_)
  | (with_reducible refine r_not ?_)
  | (with_reducible refine r_and ?_)
  | (with_reducible refine r_or ?_)
  | (with_reducible refine r_ifE ?_)
  | (with_reducible refine r_notV ?_)
  | (with_reducible refine r_andV ?_)
  | (with_reducible refine r_orV ?_)
  | (with_reducible refine r_chain ?_)
  | (with_reducible refine r_cb ?_)
  | (with_reducible refine r_call ?_)
  | (with_reducible refine r_callN ?_)
  | (with_reducible refine r_nil ?_)
  | (with_reducible refine r_cons ?_)
  | ((with_reducible refine r_lst ?_))
  | ((with_reducible refine r_tup ?_))
  | ((with_reducible refine r_new ?_ ?_); (exact Nat.le_of_ble_eq_true rfl); (intro p hp))
  | (with_reducible refine r_rInt1 ?_)
  | (with_reducible refine r_rIntB ?_)
  | (with_reducible refine r_rAbs ?_)
  | (with_reducible refine r_rMin2 ?_)
  | (with_reducible refine r_rMax2 ?_)
  | ((with_reducible refine r_rLenZ ?hz ?_); (case hz => first | assumption | exact Nat.le_of_ble_eq_true rfl | (refine Nat.le_trans ?_ (by decide : 100000 ≤ sizeLine); omega)))
  | ((with_reducible refine r_addZ ?hz ?_); (case hz => (refine Nat.le_trans ?_ (by decide : 100000 ≤ sizeLine); first | omega | (simp only [Str.length] at *; simp; omega))))
  | ((with_reducible refine r_mulZ ?hz ?h0 ?h1 ?_); (case hz => first | omega | exact Nat.le_of_ble_eq_true rfl); (case h0 => omega); (case h1 => omega))
  | ((with_reducible refine' r_rLenQ ?h1 ?_); (case h1 => first | (exact .inl (by assumption)) | (exact .inr (by assumption)) | (exact .inl (SqL.of (by walk_at "lk"))) | (exact .inr (SqT.of (by walk_at "lk")))))
  | ((with_reducible refine r_eq ?hs ?_); (case hs => exact rfl))
  | ((with_reducible refine r_ne ?hs ?_); (case hs => exact rfl))
  | (with_reducible refine r_inC ?_)
  | ((with_reducible refine' r_cat ?h1 ?h2 ?h3 ?_); (case h1 => walk_at "lk"); (case h2 => walk_at "lk"); (case h3 => exact Nat.le_of_ble_eq_true rfl); (intro p hp))
  | ((with_reducible refine' r_rep ?h1 ?h2 ?h3 ?h4 ?_); (case h1 => walk_at "lk"); (case h2 => omega); (case h3 => omega); (case h4 => exact Nat.le_of_ble_eq_true rfl); (intro p hp))
  | ((with_reducible refine' r_append ?h1 ?h2 ?_); (case h1 => walk_at "lk"); (case h2 => first | exact (show _ + 1 ≤ sizeLine from Nat.le_of_ble_eq_true rfl) | exact Nat.lt_of_le_of_lt (by omega : _ ≤ 100000) (by decide)))
  | (with_reducible refine r_bm ?_)
  | ((with_reducible refine' r_tyL ?h1 ?_); (case h1 => walk_at "lk"))
  | ((with_reducible refine' r_ixL ?h1 ?h2 ?_); (case h1 => first | assumption | exact SqL.of (by walk_at "lk")); (case h2 => exact rfl))
  | ((with_reducible refine' r_ixT ?h1 ?h2 ?_); (case h1 => first | assumption | exact SqT.of (by walk_at "lk")); (case h2 => exact rfl))
  | (with_reducible refine r_gsub ?_)
  | ((with_reducible refine' r_setL ?h1 ?h2 ?_); (case h1 => walk_at "lk"); (case h2 => exact rfl))
  | (with_reducible refine r_un ?_)
  | (with_reducible refine r_neg ?_)
  | (with_reducible refine r_iteT ?_)
  | (with_reducible refine r_iteNT ?_)
  | (with_reducible refine r_iteNF ?_)
  | (with_reducible refine r_iteF ?_)
  | (with_reducible refine r_next ?_)
  | (with_reducible refine r_drop ?_)
  | (with_reducible refine r_cont ?_)
  | (with_reducible refine r_brk ?_))
local macro_rules | `(tactic| walk_at "ty") => `(tactic| first
  | assumption
  | exact .base (.int _)
  | exact .base (.str _)
  | exact .base (.bl _)
  | exact .base .non
  | exact .byt _
  | exact .base (.lst (by walk_at "lk"))
  | exact .base (.tup (by walk_at "lk")))
local macro_rules | `(tactic| walk_at "rd2") => `(tactic| first
  | walk_at "rd1"
  | ((with_reducible refine' r_isi true ?ht ?hk ?_); (case ht => walk_at "ty"); (case hk => first | assumption | decide +kernel))
  | ((with_reducible refine' r_isi false ?ht ?hk ?_); (case ht => walk_at "ty"); (case hk => first | assumption | decide +kernel))
  | ((with_reducible refine' r_isiT2 true true ?hT ?ht ?hk ?hk2 ?_); (case hT => walk_at "lk"); (case ht => walk_at "ty"); (case hk => decide +kernel); (case hk2 => decide +kernel))
  | ((with_reducible refine' r_isiT2 true false ?hT ?ht ?hk ?hk2 ?_); (case hT => walk_at "lk"); (case ht => walk_at "ty"); (case hk => decide +kernel); (case hk2 => decide +kernel))
  | ((with_reducible refine' r_isiT2 false true ?hT ?ht ?hk ?hk2 ?_); (case hT => walk_at "lk"); (case ht => walk_at "ty"); (case hk => decide +kernel); (case hk2 => decide +kernel))
  | ((with_reducible refine' r_isiT2 false false ?hT ?ht ?hk ?hk2 ?_); (case hT => walk_at "lk"); (case ht => walk_at "ty"); (case hk => decide +kernel); (case hk2 => decide +kernel))
  | (with_reducible refine r_iteNT ?_)
  | ((show (if (!true) = true then _ else _)); refine r_iteNT ?_)
  | (with_reducible refine r_r1 ?_)
  | (with_reducible refine r_maks ?_)
  | (with_reducible refine r_sfld ?_)
  | ((with_reducible refine' r_sfldE ?h1 ?h2 ?h3 ?h4 ?_); (case h1 => walk_at "lk"); (case h2 => assumption); (case h3 => assumption); (case h4 => exact (show _ + 1 ≤ 1000 from Nat.le_of_ble_eq_true rfl)))
  | (with_reducible refine r_fld ?_)
  | (with_reducible refine r_join ?_)
  | (with_reducible refine r_jcons ?_)
  | (with_reducible refine r_jnil ?_)
  | ((with_reducible refine r_rLenY ?hz ?_); (case hz => first | assumption | (refine Nat.le_trans ?_ (by decide : 100000 ≤ sizeLine); omega)))
  | (with_reducible refine r_par ?_)
  | (with_reducible refine r_pair ?_)
  | (with_reducible refine r_par3 ?_)
  | (with_reducible refine r_trip ?_)
  | ((with_reducible refine' r_gtup ?h1 ?h2 ?_); (case h1 => first | assumption | exact SqT.of (by walk_at "lk")); (case h2 => exact rfl))
  | (with_reducible refine r_gcons ?_)
  | (with_reducible refine r_gnil ?_)
  | ((with_reducible refine' r_slL ?h1 ?_); (case h1 => first | assumption | exact SqL.of (by walk_at "lk")); (intro p hp))
  | (with_reducible refine r_iTup ?_)
  | ((with_reducible refine' r_tupE ?h1 ?_); (case h1 => first | assumption | exact SqT.of (by walk_at "lk")))
  | (with_reducible refine r_m1 ?_)
  | (with_reducible refine r_isZ ?_)
  | (with_reducible refine r_sl ?_)
  | (with_reducible refine r_noPart ?_)
  | (with_reducible refine r_part ?_)
  | (with_reducible refine r_partE ?_)
  | ((with_reducible refine r_slS ?hz ?_); (case hz => first | assumption | (refine Nat.le_trans ?_ (by decide : 100000 ≤ sizeLine); omega)))
  | ((with_reducible refine' r_inT ?h1 ?h2 ?h3 ?_); (case h1 => first | assumption | (exact SqT.of (by walk_at "lk"))); (case h2 => exact rfl); (case h3 => exact rfl))
  | ((with_reducible refine' r_inL ?h1 ?h2 ?h3 ?_); (case h1 => first | assumption | (exact SqL.of (by walk_at "lk"))); (case h2 => exact rfl); (case h3 => exact rfl))
  | (with_reducible refine r_lc ?_)
  | (with_reducible refine r_for ?_)
  | (with_reducible refine r_iStr ?_)
  | (with_reducible refine r_strE ?_)
  | (with_reducible refine r_iList ?_)
  | ((with_reducible refine' r_listE ?h1 ?_); (case h1 => first | assumption | exact SqL.of (by walk_at "lk")))
  | (with_reducible refine r_iRng1 ?_)
  | ((with_reducible refine' r_rngE ?h0 ?h1 ?_); (case h0 => first | omega | (split <;> omega)); (case h1 => first | omega | (split <;> omega))))
local macro_rules | `(tactic| walk_at "rd") => `(tactic| (repeat walk_at "rd2"))
local macro_rules | `(tactic| walk_at "st") => `(tactic| (repeat (first
  | (with_reducible refine r_gname ?_)
  | (with_reducible refine r_next ?_)
  | (with_reducible refine r_seq ?_)
  | (with_reducible refine r_asg ?_)
  | (with_reducible refine r_ret ?_)
  | (with_reducible refine r_for ?_)
  | (with_reducible refine r_iRng1 ?_)
  | (with_reducible refine r_iList ?_)
  | (with_reducible refine r_cons ?_)
  | (with_reducible refine r_par ?_)
  | (with_reducible refine r_par3 ?_))))
open LamX (Tabs TabB ExtN)
/-! ### links: the deeds in a list -/
theorem r_eqDue2 {K : PySem.W.Frag} {H : Hp} {Q : VK} {p q : Addr} {rs : List Addr} {L : Addr} {d : Option (Str × Tr)} (n : rs.length = 2) (h1 : H p = some (.lst (rs.map V.ref))) (hr : ∀ r ∈ rs, H r = some (.lst (dueV d))) (h2 : H q = some (.lst [.ref L, .ref L])) (hL : H L = some (.lst (dueV d))) (ok : dueOk d) (h : Q (.bl true) H) : rEqD K (.ref p) (.ref q) H Q := by
  match rs, n with
  | [r1, r2], _ =>
    have g1 := hr r1 (by simp)
    have g2 := hr r2 (by simp)
    cases d with
    | none =>
      exact ⟨.list [.list [.str "none", .str "", .bool true], .list [.str "none", .str "", .bool true]], .list [.list [.str "none", .str "", .bool true], .list [.str "none", .str "", .bool true]],
        .lst (SqL.of h1) (.cons (.lst (SqL.of g1) (.cons (.str _) (.cons (.str _) (.cons (.bl _) .nil)))) (.cons (.lst (SqL.of g2) (.cons (.str _) (.cons (.str _) (.cons (.bl _) .nil)))) .nil)),
        .lst (SqL.of h2) (.cons (.lst (SqL.of hL) (.cons (.str _) (.cons (.str _) (.cons (.bl _) .nil)))) (.cons (.lst (SqL.of hL) (.cons (.str _) (.cons (.str _) (.cons (.bl _) .nil)))) .nil)), by decide +kernel, by decide +kernel, h⟩
    | some x =>
      obtain ⟨k, t⟩ := x
      obtain ⟨o1, o2⟩ := ok k t rfl
      have sh : SeqAt.shaped (.list [.list [.str k, .str t.shown, .bool true], .list [.str k, .str t.shown, .bool true]]) = true := by simp [SeqAt.shaped, PyData.canLay0, PyData.canLayAll0, PyData.depth, PyData.depthAll, o1, o2]
      refine ⟨.list [.list [.str k, .str t.shown, .bool true], .list [.str k, .str t.shown, .bool true]], .list [.list [.str k, .str t.shown, .bool true], .list [.str k, .str t.shown, .bool true]],
        .lst (SqL.of h1) (.cons (.lst (SqL.of g1) (.cons (.str _) (.cons (.str _) (.cons (.bl _) .nil)))) (.cons (.lst (SqL.of g2) (.cons (.str _) (.cons (.str _) (.cons (.bl _) .nil)))) .nil)),
        .lst (SqL.of h2) (.cons (.lst (SqL.of hL) (.cons (.str _) (.cons (.str _) (.cons (.bl _) .nil)))) (.cons (.lst (SqL.of hL) (.cons (.str _) (.cons (.str _) (.cons (.bl _) .nil)))) .nil)), sh, sh, ?_⟩
      have e : PyData.eqv (.list [.list [.str k, .str t.shown, .bool true], .list [.str k, .str t.shown, .bool true]]) (.list [.list [.str k, .str t.shown, .bool true], .list [.str k, .str t.shown, .bool true]]) = true := by simp [PyData.eqv, PyData.eqvAll]
      rw [e]
      exact h
theorem dueV_ne {d : Option (Str × Tr)} {rs : List Addr} : dueV d ≠ rs.map V.ref := fun z => by
  cases d with
  | none => cases rs <;> cases z
  | some x => cases rs <;> cases z
theorem tail_links {K : PySem.W.Frag} {T : List (Addr × Str)} {q : Str} {ps1 ps2 : Arguments} {bd1 bd2 : Expr} {sc1 sc2 : Scope} {cl1 cl2 : List (Str × Addr)} {c : Ec} {CY CL a p1 p2 pb pt L2 : Addr} {n g b u : V} {f1 f0 f2 f3 : Bool} {tn tg tb tu : Tr} {due : Option (Str × Tr)} {x0 x2 x7 : Option V} {H : Hp} {D : Ends}
    (s : Src H a) (tabs : Tabs T H) (a1 : PickAt H p1 n f1) (a0 : PickAt H p2 g f0) (a2 : PickAt H pb b f2) (a3 : PickAt H pt u f3) (d1 : Dn H n tn) (d0 : Dn H g tg) (d2 : Dn H b tb) (d3 : Dn H u tu) (o1 : NmOk tn) (o0 : NmOk tg) (o2 : TOk tb) (o3 : TOk tu)
    (is : VdIs c (vName c tn (vName c tg (vStamp c tb tu))) due) (ok : dueOk due) (hL : H L2 = some (.lst (dueV due))) (k : ∀ G, ExtN H G → Src G a → Tabs T G → D.rt (.bl true) G) :
    tSeq (tAsg (tLst (tCons (tLamV T q ps1 bd1 sc1 cl1) tNil)) (gName 2)) (tSeq (tDrop (tBM K "list" rAppend (tVar 2) (tCons (tLamV T q ps2 bd2 sc2 cl2) tNil)))
      (tRet (tOp (rEqD K) (fun σ H Q => tLc (iList K (tVar 2)) (gName 7) tYes (tOr (tCallT (tVar 7) q ps1 bd1 sc1 cl1 (TTerr c) (fun E _ => tMakX (pX (spLnkX c CY)) 2 CY E (tCons (tOp (rIxT K) (tVar 4) (tC (.int 0))) (tCons (tOp (rIxT K) (tVar 5) (tC (.int 0))) tNil)) (tCons (tOp (rIxT K) (tVar 3) (tC (.int 0))) (tCons (tOp (rIxT K) (tVar 6) (tC (.int 0))) tNil)) σ))
        (tCallT (tVar 7) q ps2 bd2 sc2 cl2 (TTerr c) (fun E _ => tMakX (pX (spLnkX c CL)) 2 CL E (tCons (tOp (rIxT K) (tVar 4) (tC (.int 0))) (tCons (tOp (rIxT K) (tVar 5) (tC (.int 0))) tNil)) (tCons (tOp (rIxT K) (tVar 3) (tC (.int 0))) (tCons (tOp (rIxT K) (tVar 6) (tC (.int 0))) tNil)) σ))) [7] σ H Q)
        (tLst (tCons (tVar 1) (tCons (tVar 1) tNil)))))) D [x0, some (.ref L2), x2, some (.ref pb), some (.ref p1), some (.ref p2), some (.ref pt), x7] H := by
  (with_reducible refine r_seq ?_)
  (with_reducible refine r_asg ?_)
  (with_reducible refine r_lst ?_)
  (with_reducible refine r_cons ?_)
  refine lamV_k1 tabs _ fun l1 c1 H1 ext1 tabs1 isL1 isC1 => ?_
  walk_at "rd"
  rename_i dl hdl
  refine lamV_k1 (LamX.Tabs.ext tabs1 (same_new hdl)) _ fun l2 c2 H2 ext2 tabs2 isL2 isC2 => ?_
  walk_at "rd"
  have hd2 : H2 dl = some (.lst [.ref l1]) := (LT.ext ext2).l _ _ upd_same
  refine r_append hd2 (Nat.le_of_ble_eq_true rfl) ?_
  walk_at "rd"
  generalize eA : upd H2 dl (.lst ([V.ref l1] ++ [V.ref l2])) = HA
  have ndl : ∀ b o, H b = some o → (∀ ps, o ≠ .tbl ps) → b ≠ dl := fun b o e no z => by
    rw [z] at e
    rw [ext1 _ _ e no] at hdl
    cases hdl
  have keepA : ExtN H HA := fun b o e no => by
    rw [← eA, upd_ne (ndl b o e no)]
    exact ext2 _ _ (upd_old hdl (ext1 _ _ e no)) no
  have atDl : HA dl = some (.lst [.ref l1, .ref l2]) := by rw [← eA]; exact upd_same
  have ndl1 : l1 ≠ dl := ne_of_none isL1 hdl
  have ndc1 : c1 ≠ dl := ne_of_none isC1 hdl
  have ndl2 : l2 ≠ dl := fun z => by
    rw [z, hd2] at isL2
    unfold LamO at isL2
    cases isL2
  have ndc2 : c2 ≠ dl := fun z => by
    rw [z, hd2] at isC2
    unfold LamX.CodeO at isC2
    cases isC2
  have L1A : HA l1 = some (LamO q ps1 bd1 sc1 cl1 c1 l1) := by
    rw [← eA, upd_ne ndl1]
    exact ext2 _ _ (upd_old hdl isL1) (fun _ z => by unfold LamO at z; cases z)
  have C1A : HA c1 = some (LamX.CodeO c1 q) := by
    rw [← eA, upd_ne ndc1]
    exact ext2 _ _ (upd_old hdl isC1) LamX.codeO_ne
  have L2A : HA l2 = some (LamO q ps2 bd2 sc2 cl2 c2 l2) := by rw [← eA, upd_ne ndl2]; exact isL2
  have C2A : HA c2 = some (LamX.CodeO c2 q) := by rw [← eA, upd_ne ndc2]; exact isC2
  have tabsA : Tabs T HA := fun p hp => by
    obtain ⟨row, z1, z2, z3⟩ := tabs2 p hp
    have nP : p.1 ≠ dl := fun z => by
      rw [z, hd2] at z1
      cases z1
    refine ⟨row, by rw [← eA, upd_ne nP]; exact z1, z2, fun pos cv hc => ?_⟩
    obtain ⟨c0, y1, y2⟩ := z3 pos cv hc
    refine ⟨c0, y1, ?_⟩
    have nc : c0 ≠ dl := fun z => by
      rw [z, hd2] at y2
      unfold LamX.CodeO at y2
      cases y2
    rw [← eA, upd_ne nc]
    exact y2
  clear eA tabs2 tabs1 isL1 isL2 isC1 isC2 ext1 ext2 hd2
  intro D1 hD1
  have sA : Src HA a := Src.ext keepA s
  have nLam : ∀ {cc f : Addr} {ps : Arguments} {bd : Expr} {sc : Scope} {cl : List (Str × Addr)} (tt : Array Value), LamO q ps bd sc cl cc f ≠ .tbl tt := fun tt z => by
    unfold LamO at z
    cases z
  refine lc_it (walk_list (xs := [.ref l1, .ref l2])) (fun i G => (∀ b o, b ≠ D1 → HA b = some o → (∀ ps, o ≠ .tbl ps) → G b = some o) ∧ Tabs T G ∧ ∃ rs : List Addr, rs.length = i ∧ G D1 = some (.lst (rs.map V.ref)) ∧ ∀ r ∈ rs, r ≠ D1 ∧ G r = some (.lst (dueV due))) ?_ ?_ ?_ ?_
  · exact ⟨fun b o n e _ => (upd_ne n).trans e, LamX.Tabs.ext tabsA (same_new hD1), [], rfl, upd_same, fun r hr => nomatch hr⟩
  · intro i G hi h
    exact SqL.of (h.1 _ _ (ne_of_none atDl hD1) atDl (fun _ z => nomatch z))
  · rintro i x _ G hi ⟨kp, tabsG, rs, hlen, atD, all⟩ ⟨rfl, hx⟩
    have up : ∀ b o, HA b = some o → (∀ ps, o ≠ .tbl ps) → G b = some o := fun b o e no => kp b o (ne_of_none e hD1) e no
    have lt : LT H G := ⟨fun b xs e => up _ _ (keepA _ _ e (fun _ z => nomatch z)) (fun _ z => nomatch z), fun b xs e => up _ _ (keepA _ _ e (fun _ z => nomatch z)) (fun _ z => nomatch z), fun b e => up _ _ (keepA _ _ e (fun _ z => nomatch z)) (fun _ z => nomatch z)⟩
    have fin : ∀ p G', ExtN G G' → Tabs T G' → G' p = some (.lst (dueV due)) → ∃ acc, G' D1 = some (.lst acc) ∧ acc.length < sizeLine ∧ ((∀ b o, b ≠ D1 → HA b = some o → (∀ ps, o ≠ .tbl ps) → upd G' D1 (.lst (acc ++ [V.ref p])) b = some o) ∧ Tabs T (upd G' D1 (.lst (acc ++ [V.ref p]))) ∧ ∃ rs : List Addr, rs.length = i + 1 ∧ upd G' D1 (.lst (acc ++ [V.ref p])) D1 = some (.lst (rs.map V.ref)) ∧ ∀ r ∈ rs, r ≠ D1 ∧ upd G' D1 (.lst (acc ++ [V.ref p])) r = some (.lst (dueV due))) := by
      intro p G' ext tabs' atp
      have atD' : G' D1 = some (.lst (rs.map V.ref)) := ext _ _ atD (fun _ z => nomatch z)
      have np : p ≠ D1 := fun z => by
        rw [z, atD'] at atp
        have z2 : rs.map V.ref = dueV due := HO.lst.inj (Option.some.inj atp)
        exact dueV_ne z2.symm
      refine ⟨_, atD', ?_, fun b o n e no => (upd_ne n).trans (ext _ _ (kp b o n e no) no), fun p' hp' => ?_, rs ++ [p], by rw [List.length_append, hlen]; rfl, by rw [upd_same, List.map_append]; rfl, fun r hr => ?_⟩
      · rw [List.length_map, hlen]
        exact Nat.lt_of_lt_of_le hi (Nat.le_of_ble_eq_true rfl)
      · obtain ⟨row, z1, z2, z3⟩ := tabs' p' hp'
        have nP : p'.1 ≠ D1 := fun z => by
          rw [z, atD'] at z1
          cases z1
        refine ⟨row, (upd_ne nP).trans z1, z2, fun pos cv hc => ?_⟩
        obtain ⟨c0, y1, y2⟩ := z3 pos cv hc
        have nc : c0 ≠ D1 := fun z => by
          rw [z, atD'] at y2
          unfold LamX.CodeO at y2
          cases y2
        exact ⟨c0, y1, (upd_ne nc).trans y2⟩
      · rcases List.mem_append.mp hr with hr | hr
        · obtain ⟨z1, z2⟩ := all r hr
          exact ⟨z1, (upd_ne z1).trans (ext _ _ z2 (fun _ z => nomatch z))⟩
        · rw [List.mem_singleton] at hr
          rw [hr]
          exact ⟨np, (upd_ne np).trans atp⟩
    refine ⟨rfl, ?_⟩
    show tOr _ _ _ _ _
    match i, hx with
    | 0, hx =>
      cases Option.some.inj hx
      refine r_orL (call_lnk (i := 4) (m := 5) (j := 3) (l := 6) rfl rfl rfl rfl (fun Q' kq => r_var rfl (kq l1 c1 G (ExtN.refl G) tabsG (up _ _ L1A nLam) (up _ _ C1A LamX.codeO_ne))) (lt.t _ _ a1) (lt.t _ _ a0) (lt.t _ _ a2) (lt.t _ _ a3) tn tg tb tu (d1.lt lt) (d0.lt lt) (d2.lt lt) (d3.lt lt) o1 o0 o2 o3 is fin)
    | 1, hx =>
      cases Option.some.inj hx
      refine r_orR (call_lnk (i := 4) (m := 5) (j := 3) (l := 6) rfl rfl rfl rfl (fun Q' kq => r_var rfl (kq l2 c2 G (ExtN.refl G) tabsG (up _ _ L2A nLam) (up _ _ C2A LamX.codeO_ne))) (lt.t _ _ a1) (lt.t _ _ a0) (lt.t _ _ a2) (lt.t _ _ a3) tn tg tb tu (d1.lt lt) (d0.lt lt) (d2.lt lt) (d3.lt lt) o1 o0 o2 o3 is fin)
  · rintro G ⟨kp, tabsG, rs, hlen, atD, all⟩
    walk_at "rd"
    rename_i e2 he2
    have hLA : G L2 = some (.lst (dueV due)) := kp _ _ (ne_of_none (keepA _ _ hL (fun _ z => nomatch z)) hD1) (keepA _ _ hL (fun _ z => nomatch z)) (fun _ z => nomatch z)
    refine r_eqDue2 hlen (upd_old he2 atD) (fun r hr => upd_old he2 (all r hr).2) upd_same (upd_old he2 hLA) ok (k _ (fun b o e no => upd_old he2 (kp _ _ (ne_of_none (keepA b o e no) hD1) (keepA b o e no) no)) ?_ (LamX.Tabs.ext tabsG (same_new he2)))
    obtain ⟨l, m, cc, z1, z2⟩ := sA
    exact ⟨l, m, cc, upd_old he2 (kp _ _ (ne_of_none z1 hD1) z1 (fun _ z => nomatch z)), z2⟩
end Th
namespace Th
open PySem PySem.Spec PyProof.Rows L2
local macro_rules | `(tactic| walk_at "lk") => `(tactic| first
  | assumption
  | exact upd_same
  | (refine upd_old (by assumption) ?_; walk_at "lk")
  | (refine upd_diff (by assumption) ?_; walk_at "lk")
  | (refine upd_diff (Ne.symm (by assumption)) ?_; walk_at "lk"))
local macro_rules | `(tactic| walk_at "cnd") => `(tactic| first
  | omega
  | (refine ⟨by omega, by omega⟩)
  | (refine ⟨by omega, by omega, by omega⟩)
  | (refine .inl ⟨by omega, by omega⟩)
  | (refine .inr ⟨by omega, by omega⟩)
  | (exact (show CPow _ _ from ⟨by decide, by decide, by omega⟩))
  | decide +kernel
  | (unfold CMulW; decide +kernel)
  | (exact wide_div (b := 64) (by omega) (by omega) (by decide) (by decide)))
local macro_rules | `(tactic| walk_at "rd1") => `(tactic| first
  | (with_reducible refine r_seq ?_)
  | (with_reducible refine r_asg ?_)
  | (with_reducible refine r_ret ?_)
  | (with_reducible refine r_if ?_)
  | (with_reducible refine r_gname ?_)
  | ((with_reducible refine' r_var ?hv ?_); (case hv => exact rfl))
  | (with_reducible refine r_c ?_)
  | (with_reducible refine r_op ?_)
  | (with_reducible refine r_I0 ?_)
  | ((with_reducible refine r_I ?hc ?_); (case hc => walk_at "cnd"))
  | (with_reducible refine r_test ?_)
  | (with_reducible refine r_tB ?_)
  | (with_reducible refine r_bl ?_)
  | (with_reducible refine r_not ?_)
  | (with_reducible refine r_and ?_)
  | (with_reducible refine r_or ?_)
  | (with_reducible refine r_ifE ?_)
  | (with_reducible refine r_notV ?_)
  | (with_reducible refine r_andV ?_)
  | (with_reducible refine r_orV ?_)
  | (with_reducible refine r_chain ?_)
  | (with_reducible refine r_cb ?_)
  | (with_reducible refine r_call ?_)
  | (with_reducible refine r_callN ?_)
  | (with_reducible refine r_nil ?_)
  | (with_reducible refine r_cons ?_)
  | ((with_reducible refine r_lst ?_))
  | ((with_reducible refine r_tup ?_))
  | ((with_reducible refine r_new ?_ ?_); (exact Nat.le_of_ble_eq_true rfl); (intro p hp))
  | (with_reducible refine r_rInt1 ?_)
  | (with_reducible refine r_rIntB ?_)
  | (with_reducible refine r_rAbs ?_)
  | (with_reducible refine r_rMin2 ?_)
  | (with_reducible refine r_rMax2 ?_)
  | ((with_reducible refine r_rLenZ ?hz ?_); (case hz => first | assumption | exact Nat.le_of_ble_eq_true rfl | (refine Nat.le_trans ?_ (by decide : 100000 ≤ sizeLine); omega)))
  | ((with_reducible refine r_addZ ?hz ?_); (case hz => (refine Nat.le_trans ?_ (by decide : 100000 ≤ sizeLine); first | omega | (simp only [Str.length] at *; simp; omega))))
  | ((with_reducible refine r_mulZ ?hz ?h0 ?h1 ?_); (case hz => first | omega | exact Nat.le_of_ble_eq_true rfl); (case h0 => omega); (case h1 => omega))
  | ((with_reducible refine' r_rLenQ ?h1 ?_); (case h1 => first | (exact .inl (by assumption)) | (exact .inr (by assumption)) | (exact .inl (SqL.of (by walk_at "lk"))) | (exact .inr (SqT.of (by walk_at "lk")))))
  | ((with_reducible refine r_eq ?hs ?_); (case hs => exact rfl))
  | ((with_reducible refine r_ne ?hs ?_); (case hs => exact rfl))
  | (with_reducible refine r_inC ?_)
  | ((with_reducible refine' r_cat ?h1 ?h2 ?h3 ?_); (case h1 => walk_at "lk"); (case h2 => walk_at "lk"); (case h3 => exact Nat.le_of_ble_eq_true rfl); (intro p hp))
  | ((with_reducible refine' r_rep ?h1 ?h2 ?h3 ?h4 ?_); (case h1 => walk_at "lk"); (case h2 => omega); (case h3 => omega); (case h4 => exact Nat.le_of_ble_eq_true rfl); (intro p hp))
  | ((with_reducible refine' r_append ?h1 ?h2 ?_); (case h1 => walk_at "lk"); (case h2 => first | exact (show _ + 1 ≤ sizeLine from Nat.le_of_ble_eq_true rfl) | exact Nat.lt_of_le_of_lt (by omega : _ ≤ 100000) (by decide)))
  | (with_reducible refine r_bm ?_)
  | ((with_reducible refine' r_tyL ?h1 ?_); (case h1 => walk_at "lk"))
  | ((with_reducible refine' r_ixL ?h1 ?h2 ?_); (case h1 => first | assumption | exact SqL.of (by walk_at "lk")); (case h2 => exact rfl))
  | ((with_reducible refine' r_ixT ?h1 ?h2 ?_); (case h1 => first | assumption | exact SqT.of (by walk_at "lk")); (case h2 => exact rfl))
  | (with_reducible refine r_gsub ?_)
  | ((with_reducible refine' r_setL ?h1 ?h2 ?_); (case h1 => walk_at "lk"); (case h2 => exact rfl))
  | (with_reducible refine r_un ?_)
  | (with_reducible refine r_neg ?_)
  | (with_reducible refine r_iteT ?_)
  | (with_reducible refine r_iteNT ?_)
  | (with_reducible refine r_iteNF ?_)
  | (with_reducible refine r_iteF ?_)
  | (with_reducible refine r_next ?_)
  | (with_reducible refine r_drop ?_)
  | (with_reducible refine r_cont ?_)
  | (with_reducible refine r_brk ?_))
local macro_rules | `(tactic| walk_at "ty") => `(tactic| first
  | assumption
  | exact .base (.int _)
  | exact .base (.str _)
  | exact .base (.bl _)
  | exact .base .non
  | exact .byt _
  | exact .base (.lst (by walk_at "lk"))
  | exact .base (.tup (by walk_at "lk")))
local macro_rules | `(tactic| walk_at "rd2") => `(tactic| first
  | walk_at "rd1"
  | ((with_reducible refine' r_isi true ?ht ?hk ?_); (case ht => walk_at "ty"); (case hk => first | assumption | decide +kernel))
  | ((with_reducible refine' r_isi false ?ht ?hk ?_); (case ht => walk_at "ty"); (case hk => first | assumption | decide +kernel))
  | ((with_reducible refine' r_isiT2 true true ?hT ?ht ?hk ?hk2 ?_); (case hT => walk_at "lk"); (case ht => walk_at "ty"); (case hk => decide +kernel); (case hk2 => decide +kernel))
  | ((with_reducible refine' r_isiT2 true false ?hT ?ht ?hk ?hk2 ?_); (case hT => walk_at "lk"); (case ht => walk_at "ty"); (case hk => decide +kernel); (case hk2 => decide +kernel))
  | ((with_reducible refine' r_isiT2 false true ?hT ?ht ?hk ?hk2 ?_); (case hT => walk_at "lk"); (case ht => walk_at "ty"); (case hk => decide +kernel); (case hk2 => decide +kernel))
  | ((with_reducible refine' r_isiT2 false false ?hT ?ht ?hk ?hk2 ?_); (case hT => walk_at "lk"); (case ht => walk_at "ty"); (case hk => decide +kernel); (case hk2 => decide +kernel))
  | (with_reducible refine r_iteNT ?_)
  | ((show (if (!true) = true then _ else _)); refine r_iteNT ?_)
  | (with_reducible refine r_r1 ?_)
  | (with_reducible refine r_maks ?_)
  | (with_reducible refine r_sfld ?_)
  | ((with_reducible refine' r_sfldE ?h1 ?h2 ?h3 ?h4 ?_); (case h1 => walk_at "lk"); (case h2 => assumption); (case h3 => assumption); (case h4 => exact (show _ + 1 ≤ 1000 from Nat.le_of_ble_eq_true rfl)))
  | (with_reducible refine r_fld ?_)
  | (with_reducible refine r_join ?_)
  | (with_reducible refine r_jcons ?_)
  | (with_reducible refine r_jnil ?_)
  | ((with_reducible refine r_rLenY ?hz ?_); (case hz => first | assumption | (refine Nat.le_trans ?_ (by decide : 100000 ≤ sizeLine); omega)))
  | (with_reducible refine r_par ?_)
  | (with_reducible refine r_pair ?_)
  | (with_reducible refine r_par3 ?_)
  | (with_reducible refine r_trip ?_)
  | ((with_reducible refine' r_gtup ?h1 ?h2 ?_); (case h1 => first | assumption | exact SqT.of (by walk_at "lk")); (case h2 => exact rfl))
  | (with_reducible refine r_gcons ?_)
  | (with_reducible refine r_gnil ?_)
  | ((with_reducible refine' r_slL ?h1 ?_); (case h1 => first | assumption | exact SqL.of (by walk_at "lk")); (intro p hp))
  | (with_reducible refine r_iTup ?_)
  | ((with_reducible refine' r_tupE ?h1 ?_); (case h1 => first | assumption | exact SqT.of (by walk_at "lk")))
  | (with_reducible refine r_m1 ?_)
  | (with_reducible refine r_isZ ?_)
  | (with_reducible refine r_sl ?_)
  | (with_reducible refine r_noPart ?_)
  | (with_reducible refine r_part ?_)
  | (with_reducible refine r_partE ?_)
  | ((with_reducible refine r_slS ?hz ?_); (case hz => first | assumption | (refine Nat.le_trans ?_ (by decide : 100000 ≤ sizeLine); omega)))
  | ((with_reducible refine' r_inT ?h1 ?h2 ?h3 ?_); (case h1 => first | assumption | (exact SqT.of (by walk_at "lk"))); (case h2 => exact rfl); (case h3 => exact rfl))
  | ((with_reducible refine' r_inL ?h1 ?h2 ?h3 ?_); (case h1 => first | assumption | (exact SqL.of (by walk_at "lk"))); (case h2 => exact rfl); (case h3 => exact rfl))
  | (with_reducible refine r_lc ?_)
  | (with_reducible refine r_for ?_)
  | (with_reducible refine r_iStr ?_)
  | (with_reducible refine r_strE ?_)
  | (with_reducible refine r_iList ?_)
  | ((with_reducible refine' r_listE ?h1 ?_); (case h1 => first | assumption | exact SqL.of (by walk_at "lk")))
  | (with_reducible refine r_iRng1 ?_)
  | ((with_reducible refine' r_rngE ?h0 ?h1 ?_); (case h0 => first | omega | (split <;> omega)); (case h1 => first | omega | (split <;> omega))))
local macro_rules | `(tactic| walk_at "rd") => `(tactic| (repeat walk_at "rd2"))
local macro_rules | `(tactic| walk_at "st") => `(tactic| (repeat (first
  | (with_reducible refine r_gname ?_)
  | (with_reducible refine r_next ?_)
  | (with_reducible refine r_seq ?_)
  | (with_reducible refine r_asg ?_)
  | (with_reducible refine r_ret ?_)
  | (with_reducible refine r_for ?_)
  | (with_reducible refine r_iRng1 ?_)
  | (with_reducible refine r_iList ?_)
  | (with_reducible refine r_cons ?_)
  | (with_reducible refine r_par ?_)
  | (with_reducible refine r_par3 ?_))))
open LamX (Tabs TabB ExtN)
def spLinks (T : List (Addr × Str)) : Sp := fun vs H Q _ => ∃ a, vs = [.ref a] ∧ Src H a ∧ Tabs T H ∧ ∀ H', Src H' a → Tabs T H' → ButN a H H' → Q (.bl true) H'
theorem r_neDue {K : PySem.W.Frag} {H : Hp} {Q : VK} {p q : Addr} {d : Option (Str × Tr)} (h1 : H p = some (.lst (dueV d))) (h2 : H q = some (.lst (dueV d))) (ok : ∀ k t, d = some (k, t) → PyData.strOk k = true ∧ PyData.strOk t.shown = true) (h : Q (.bl false) H) : rNeD K (.ref p) (.ref q) H Q := by
  obtain ⟨e, _, s1, s2⟩ := due_dp (K := K) h1 ok
  cases d with
  | none => exact ⟨_, _, .lst (SqL.of h1) (.cons (.str _) (.cons (.str _) (.cons (.bl _) .nil))), .lst (SqL.of h2) (.cons (.str _) (.cons (.str _) (.cons (.bl _) .nil))), by decide +kernel, by decide +kernel, h⟩
  | some x =>
    obtain ⟨k, t⟩ := x
    obtain ⟨o1, o2⟩ := ok k t rfl
    have sh : SeqAt.shaped (.list [.str k, .str t.shown, .bool true]) = true := by simp [SeqAt.shaped, PyData.canLay0, PyData.canLayAll0, PyData.depth, PyData.depthAll, o1, o2]
    refine ⟨.list [.str k, .str t.shown, .bool true], .list [.str k, .str t.shown, .bool true], .lst (SqL.of h1) (.cons (.str _) (.cons (.str _) (.cons (.bl _) .nil))), .lst (SqL.of h2) (.cons (.str _) (.cons (.str _) (.cons (.bl _) .nil))), sh, sh, ?_⟩
    have e : PyData.eqv (.list [.str k, .str t.shown, .bool true]) (.list [.str k, .str t.shown, .bool true]) = true := by simp [PyData.eqv, PyData.eqvAll]
    rw [e]
    exact h
/-! ### the deeds of links and directories -/
theorem call_dir {c : Ec} {K : PySem.W.Frag} {T : List (Addr × Str)} {te : TE} {q : Str} {ps : Arguments} {bd : Expr} {sc : Scope} {cl : List (Str × Addr)} {C : Addr} {i j l : Nat} {pn pb pt : Addr} {n b u : V} {f1 f2 f3 : Bool} {due : Option (Str × Tr)} {σ : L2.St} {H : Hp} {Qc : VK}
    (hi : σ[i]? = some (some (.ref pn))) (hj : σ[j]? = some (some (.ref pb))) (hl : σ[l]? = some (some (.ref pt)))
    (k1 : ∀ Q' : VK, (∀ f cc H1, ExtN H H1 → Tabs T H1 → H1 f = some (LamO q ps bd sc cl cc f) → H1 cc = some (LamX.CodeO cc q) → Q' (.ref f) H1) → te σ H Q')
    (a1 : PickAt H pn n f1) (a2 : PickAt H pb b f2) (a3 : PickAt H pt u f3) (tn tb tu : Tr) (d1 : Dn H n tn) (d2 : Dn H b tb) (d3 : Dn H u tu) (o1 : NmOk tn) (o2 : TOk tb) (o3 : TOk tu)
    (is : VdIs c (vName c tn (vStamp c tb tu)) due) (k : ∀ p G, ExtN H G → Tabs T G → G p = some (.lst (dueV due)) → Qc (.ref p) G) :
    tCallT te q ps bd sc cl (TTerr c) (fun E => tMakX (pX (spDirX c C)) 2 C E (tCons (tOp (rIxT K) (tVar i) (tC (.int 0))) tNil) (tCons (tOp (rIxT K) (tVar j) (tC (.int 0))) (tCons (tOp (rIxT K) (tVar l) (tC (.int 0))) tNil))) σ H Qc := by
  refine k1 _ fun f cc H1 ext tabs1 hf hcc => ⟨f, cc, rfl, hf, hcc, fun E R hE hR => ?_⟩
  have lt := LT.ext ext
  refine r_makX (r_cons (r_op (r_var hi (r_c (r_ixT (SqT.of (lt.t _ _ a1)) rfl (r_nil (r_cons (r_op (r_var hj (r_c (r_ixT (SqT.of (lt.t _ _ a2)) rfl (r_cons (r_op (r_var hl (r_c (r_ixT (SqT.of (lt.t _ _ a3)) rfl (r_nil ⟨rfl, fun x dx hx hd nd => ?_⟩)))))))))))))))))
  have sm : Same H1 (upd (upd H1 dx (.own x)) x (.ins C dx [])) := frame_new hx hd (fun _ _ _ e => e)
  have lt2 := lt.trans (LT.of sm)
  refine ⟨x, dx, n, b, u, tn, tb, tu, rfl, upd_same, d1.lt lt2, d2.lt lt2, d3.lt lt2, o1, o2, o3, deed_run is hE hR fun p G fr hp => ?_⟩
  have sm2 : Same H1 G := frame_new hx hd fr
  exact k p G (fun b o e no => sm2 b o (ext b o e no)) (LamX.Tabs.ext tabs1 sm2) hp
section
variable {P : Program} {w : World} {K : PySem.W.Frag} {mg : Str → Option Value} {base : Heap}
theorem walk_links {A : Around} {cA PA : Addr} {cdv : Value} {outer : List Env} {f : Addr} {s : Shared} {H : Hp} {vs : List V} {Q : VK} {E : XK} {T : List (Addr × Str)} {c : Ec} {kk : Ek} (TB : TabB base mg cA PA) (code : cdv = .ref cA)
    (inT : (PA, (envOfC "_law_links_right" (defScope s__law_links_right) s.heap.objs.size f cdv).qual ++ "<lambda>") ∈ T) (one : ∀ p ∈ T, p.1 = PA → p.2 = (envOfC "_law_links_right" (defScope s__law_links_right) s.heap.objs.size f cdv).qual ++ "<lambda>")
    (hr : Room 16 (A.deeper (envOfC "_law_links_right" (defScope s__law_links_right) s.heap.objs.size f cdv))) (gd : (A.deeper (envOfC "_law_links_right" (defScope s__law_links_right) s.heap.objs.size f cdv)).guards = some [])
    (e_error : CalL P w K mg base 14 "_law_error" (TTerr c)) (m1 : mg "repr" = none)
    (mk_Dir : MakX P w K mg base 11 "Directory" kk.D ["mode", "time"] (pX (spDirX c kk.D))) (mk_Sym : MakX P w K mg base 11 "Symlink" kk.Y ["mode", "time"] (pX (spLnkX c kk.Y))) (mk_Lnk : MakX P w K mg base 11 "Link" kk.L ["mode", "time"] (pX (spLnkX c kk.L)))
    (c_pick : CalT P w K mg base 4 "_law_pick" spPick) (c_wrong : CalT P w K mg base 5 "_law_wrong_names" spWrong) (c_rst : CalT P w K mg base 6 "_law_random_stamps" spRSt) (g_sdue : CalG P w K mg base 4 "_law_stamps_due" spSDue) (h : spLinks T vs H Q E) :
    ∃ t, PSs (cxOf CX0 P w K mg base N__law_links_right "_law_links_right" (defScope s__law_links_right) f cdv A outer s H E).nox (defBody s__law_links_right) t ∧ t { nx := fun _ H' => Q .non H', rt := Q } (start N__law_links_right vs) H := by
  obtain ⟨a, rfl, hs, tabs, q⟩ := h
  have hu := hu_of hr
  have hu64 : (A.deeper (envOfC "_law_links_right" (defScope s__law_links_right) s.heap.objs.size f cdv)).units + 64 < cLine := by have := hr.un; omega
  have nd := sc__law_links_right.nd
  refine ⟨_, (pss_cons (ps_set (i := 4) nd rfl (Or.inr rfl) (pe_cc c_pick hr (by omega) (by rfl) (pa_cons (pv 0) (pa_cons (pe_lst (pa_cons pe_str (pa_cons pe_str (pa_cons (pe_op op_mulS pe_str pe_int) pa_nil)))) (pa_cons (pe_cc0 c_wrong hr (by omega) (by rfl)) pa_nil)))))
      (pss_cons (ps_set (i := 5) nd rfl (Or.inr rfl) (pe_cc c_pick hr (by omega) (by rfl) (pa_cons (pv 0) (pa_cons (pe_lst (pa_cons pe_str (pa_cons pe_str (pa_cons (pe_op op_mulS pe_str pe_int) pa_nil)))) (pa_cons (pe_cc0 c_wrong hr (by omega) (by rfl)) pa_nil)))))
      (pss_cons (ps_asg (pe_cc c_rst hr (by omega) (by rfl) (pa_cons (pv 0) pa_nil)) (pg_tupK K (pg_tup rfl (pgs_cons (pg_name (i := 3) nd rfl (Or.inr rfl)) (pgs_cons (pg_name (i := 6) nd rfl (Or.inr rfl)) pgs_nil)))))
      (pss_cons (ps_set (i := 1) nd rfl (Or.inl rfl) (pe_ifExp (pt_val (pe_ix (ix_tupK K) (pv 4) pe_int (fun _ _ => rfl))) (pe_lst (pa_cons pe_str (pa_cons (pe_callB (call_rReprT gd hu64) (by rfl) (by assumption) (by decide +kernel) (pa_cons (pe_ix (ix_tupK K) (pv 4) pe_int (fun _ _ => rfl)) pa_nil)) (pa_cons pe_bl pa_nil)))) (pe_ccG g_sdue gd hr (by omega) (by rfl) (pa_cons (pv 3) (pa_cons (pv 6) pa_nil)))))
      (pss_cons (ps_if (pt_cmpR (op_neD hu64) (pe_callTL (k2 := 12) e_error hr (by omega) (by omega) gd (by rfl) TB code inT one (LamX.lamS_by (by show LamX.lamSB (defScope s__law_links_right) _ = true; decide +kernel)) rfl (fun _ _ _ _ _ => rfl) (fun A_ o_ s_ H_ E_ f_ c_ hr gd => (pe_mkx mk_Dir hr (by omega) (by rfl) (passes_call (takes_of rfl rfl rfl rfl) (fun _ _ _ _ h => h)) (pa_cons (pe_ix (ix_tupK K) (pv 4) pe_int (fun _ _ => rfl)) pa_nil) (pk_cons (pe_ix (ix_tupK K) (pv 3) pe_int (fun _ _ => rfl)) (pk_cons (pe_ix (ix_tupK K) (pv 6) pe_int (fun _ _ => rfl)) pk_nil))))) (pv 1) (nomark _))
        (pss_one (ps_ret pe_bl))
        pss_nil)
      (pss_cons (ps_if (PW.pt (pw_and (pt_not (pt_val (pe_ix (ix_tupK K) (pv 4) pe_int (fun _ _ => rfl)))) (pw_and1 (pt_val (pe_ix (ix_tupK K) (pv 5) pe_int (fun _ _ => rfl))))))
        (pss_one (ps_set (i := 1) nd rfl (Or.inl rfl) (pe_lst (pa_cons pe_str (pa_cons (pe_callB (call_rReprT gd hu64) (by rfl) (by assumption) (by decide +kernel) (pa_cons (pe_ix (ix_tupK K) (pv 5) pe_int (fun _ _ => rfl)) pa_nil)) (pa_cons pe_bl pa_nil))))))
        pss_nil)
      (pss_cons (ps_set (i := 2) nd rfl (Or.inl rfl) (pe_lst (pa_cons (pe_lamV TB code inT one (LamX.lamS_by (by show LamX.lamSB (defScope s__law_links_right) _ = true; decide +kernel)) rfl) pa_nil)))
      (pss_cons (ps_expr (pe_bm PySem.F.plainAttrs_list PySem.F.slot_list_append PySem.F.type_list_append mt_append (pv 2) (pa_cons (pe_lamV TB code inT one (LamX.lamS_by (by show LamX.lamSB (defScope s__law_links_right) _ = true; decide +kernel)) rfl) pa_nil)))
      (pss_one (ps_ret (pe_cmpR (op_eqD hu64) (pe_lcI (own := [("_law_deed", 7)]) (g := (gName 7)) rfl nd (pi_list (pv 2)) (blkOk_by (N := N__law_links_right) (sc := defScope s__law_links_right) (by decide +kernel)) (fun _ _ _ _ _ => (pg_name (i := 7) nd rfl (Or.inl rfl))) (fun p_ σ_ s_ H_ C_ cl_ fp_ I0 hfp_ => by
        have C0 := CellsAt.of I0
        have off_ : ∀ y c, _ → c ∉ fp_ := fun y c e hc => (hfp_ c hc).2.2.2.2.1 y c e rfl
        exact (pe_or2 (pe_callTB (k2 := 12) (ps := (lamIn ((defBody s__law_links_right).getD 6 (.Pass ⟨0, 0, 0, 0⟩))).1) (bd := (lamIn ((defBody s__law_links_right).getD 6 (.Pass ⟨0, 0, 0, 0⟩))).2.1) (sc := (lamIn ((defBody s__law_links_right).getD 6 (.Pass ⟨0, 0, 0, 0⟩))).2.2) C0 off_ e_error hr (by omega) (by omega) gd (by rfl) (pv 7) (LamX.lamS_by (by show LamX.lamSB (defScope s__law_links_right) _ = true; decide +kernel)) (fun _ _ _ _ _ => rfl) (fun A_ o_ s_ H_ E_ f_ c_ hr gd => (pe_mkx mk_Sym hr (by omega) (by rfl) (passes_call (takes_of rfl rfl rfl rfl) (fun _ _ _ _ h => h)) (pa_cons (pe_ix (ix_tupK K) (pv 4) pe_int (fun _ _ => rfl)) (pa_cons (pe_ix (ix_tupK K) (pv 5) pe_int (fun _ _ => rfl)) pa_nil)) (pk_cons (pe_ix (ix_tupK K) (pv 3) pe_int (fun _ _ => rfl)) (pk_cons (pe_ix (ix_tupK K) (pv 6) pe_int (fun _ _ => rfl)) pk_nil))))) (pe_callTB (k2 := 12) (ps := (lamIn ((defBody s__law_links_right).getD 7 (.Pass ⟨0, 0, 0, 0⟩))).1) (bd := (lamIn ((defBody s__law_links_right).getD 7 (.Pass ⟨0, 0, 0, 0⟩))).2.1) (sc := (lamIn ((defBody s__law_links_right).getD 7 (.Pass ⟨0, 0, 0, 0⟩))).2.2) C0 off_ e_error hr (by omega) (by omega) gd (by rfl) (pv 7) (LamX.lamS_by (by show LamX.lamSB (defScope s__law_links_right) _ = true; decide +kernel)) (fun _ _ _ _ _ => rfl) (fun A_ o_ s_ H_ E_ f_ c_ hr gd => (pe_mkx mk_Lnk hr (by omega) (by rfl) (passes_call (takes_of rfl rfl rfl rfl) (fun _ _ _ _ h => h)) (pa_cons (pe_ix (ix_tupK K) (pv 4) pe_int (fun _ _ => rfl)) (pa_cons (pe_ix (ix_tupK K) (pv 5) pe_int (fun _ _ => rfl)) pa_nil)) (pk_cons (pe_ix (ix_tupK K) (pv 3) pe_int (fun _ _ => rfl)) (pk_cons (pe_ix (ix_tupK K) (pv 6) pe_int (fun _ _ => rfl)) pk_nil)))))))) (pe_lst (pa_cons (pv 1) (pa_cons (pv 1) pa_nil))) (nomark _)))))))))))), ?_⟩
  -- the name
  walk_at "rd"
  rename_i g1 hg1
  refine ⟨rfl, fun w1 xs1 H1 hw1 e1 at1 z1 z2 all1 => ?_⟩
  walk_at "rd"
  have n_g1 := hs.ne hg1
  have s1 : Src H1 a := (hs.new hg1).same e1
  have n_w1 : w1 ≠ a := (hs.new hg1).ne hw1
  refine sp_pick s1 (e1 _ _ upd_same) at1 ⟨Nat.le_of_ble_eq_true rfl, Nat.le_of_ble_eq_true rfl⟩ ⟨z1, z2⟩ n_g1 n_w1 (fun p1 v1 f1 H2 hp1 pk1 in1 in2 s2 b2 => ?_)
  have b02 : But a H H2 := But.new hg1 ((Same.but e1).trans b2)
  have hp1H : H p1 = none := none_upd (none_same e1 hp1)
  have P1 : Pk (fresh H H2) Tr.nameB p1 v1 f1 := by
    refine ⟨fresh_new hp1H pk1, ?_⟩
    cases f1 with
    | false =>
      have z := in1 rfl
      simp only [List.mem_cons, List.not_mem_nil, or_false] at z
      rcases z with rfl | rfl | rfl
      · exact val_mk (.str "a") (.str _) (by decide +kernel)
      · exact val_mk (.str "/") (.str _) (by decide +kernel)
      · exact val_mk (.str (repZ "b" 250)) (.str _) (by decide +kernel)
    | true => exact val_up (hs.new hg1) (fun b hb => none_upd hb) b2 (all1 v1 (in2 rfl))
  clear in1 in2 all1
  have t2 : Tabs T H2 := Tabs.but tabs hs b02
  -- the target
  walk_at "rd"
  rename_i g2 hg2
  refine ⟨rfl, fun w2 xs2 H3 hw2 e2 at2 y1 y2 all2 => ?_⟩
  walk_at "rd"
  refine sp_pick ((s2.new hg2).same e2) (e2 _ _ upd_same) at2 ⟨Nat.le_of_ble_eq_true rfl, Nat.le_of_ble_eq_true rfl⟩ ⟨y1, y2⟩ (s2.ne hg2) ((s2.new hg2).ne hw2) (fun p2 v2 f0 H4 hp2 pk2 in1 in2 s4 b4 => ?_)
  have b24 : But a H2 H4 := But.new hg2 ((Same.but e2).trans b4)
  have b04 : But a H H4 := b02.trans b24
  have hp2H : H p2 = none := none_but b02 hs s2 (none_upd (none_same e2 hp2))
  have P0 : Pk (fresh H H4) Tr.nameB p2 v2 f0 := by
    refine ⟨fresh_new hp2H pk2, ?_⟩
    cases f0 with
    | false =>
      have z := in1 rfl
      simp only [List.mem_cons, List.not_mem_nil, or_false] at z
      rcases z with rfl | rfl | rfl
      · exact val_mk (.str "..") (.str _) (by decide +kernel)
      · exact val_mk (.str "a") (.str _) (by decide +kernel)
      · exact val_mk (.str (repZ "c" 250)) (.str _) (by decide +kernel)
    | true => exact val_up (s2.new hg2) (fun b hb => none_but b02 hs s2 (none_upd hb)) b4 (all2 v2 (in2 rfl))
  clear in1 in2 all2
  have t4 : Tabs T H4 := Tabs.but t2 s2 b24
  -- the stamps
  walk_at "rd"
  refine ⟨a, rfl, s4, fun p3 pb pt x y f2 f3 H5 hp3 at3 K2 K3 s5 b5 => ?_⟩
  have b05 : But a H H5 := b04.trans b5
  have up45 : ∀ b, H4 b = none → H b = none := fun b hb => none_but b04 hs s4 hb
  have t5 : Tabs T H5 := Tabs.but t4 s4 b5
  have P1' := P1.lt (fresh_butN hs (b24.n.trans b5.n))
  have P0' := P0.lt (fresh_butN hs b5.n)
  have K2' := pk_up up45 K2
  have K3' := pk_up up45 K3
  have q3 : H5 p3 = some (.tup [.ref pb, .ref pt]) := fresh_sub _ _ at3
  have A1 : H5 p1 = some (.tup [v1, .bl f1]) := fresh_sub _ _ P1'.at_
  have A0 : H5 p2 = some (.tup [v2, .bl f0]) := fresh_sub _ _ P0'.at_
  have A2 : H5 pb = some (.tup [x, .bl f2]) := fresh_sub _ _ K2'.at_
  have A3 : H5 pt = some (.tup [y, .bl f3]) := fresh_sub _ _ K3'.at_
  obtain ⟨tn, dn', on, sn, ln, en⟩ := P1'.val
  obtain ⟨tg, dg', og, sg, lg, eg⟩ := P0'.val
  obtain ⟨tb, db', ob, sb, lb, eb⟩ := K2'.val
  obtain ⟨tu, du', ou, su, lu, eu⟩ := K3'.val
  have dn := Dn.same fresh_sub dn'
  have dg := Dn.same fresh_sub dg'
  have db := Dn.same fresh_sub db'
  have du := Dn.same fresh_sub du'
  clear P1 P0 P1' P0' K2 K3 K2' K3' dn' dg' db' du' at3 pk1 pk2
  refine r_gtup (SqT.of q3) rfl (r_gcons (r_gname (r_gcons (r_gname (r_gnil ?_)))))
  (with_reducible refine r_seq ?_)
  have okD : dueOk (nmDue f1 tn (stDue f2 f3 tb tu)) := dueOk_nm sn (dueOk_st sb su)
  refine r_asgP (fun v G => ∃ L, v = .ref L ∧ Same H5 G ∧ G L = some (.lst (dueV (nmDue f1 tn (stDue f2 f3 tb tu))))) ?_ (fun Q' k => ?_)
  rotate_left
  · walk_at "rd"
    refine r_iteB (fun e1 => ?_) (fun e1 => ?_)
    · refine r_lst (r_cons (r_c (r_cons (r_cb (r_cons (r_op (r_var rfl (r_c (r_ixT (SqT.of A1) rfl (r_nil (r_reprT dn on ?_)))))))))))
      walk_at "rd"
      rename_i L hL
      refine k _ _ ⟨L, rfl, same_new hL, ?_⟩
      rw [nmDue, if_pos e1]
      exact upd_same
    · walk_at "rd"
      refine ⟨pb, pt, x, y, f2, f3, tb, tu, rfl, A2, A3, db, du, ob, ou, fun L G hL sm atL => k _ _ ⟨L, rfl, sm, ?_⟩⟩
      rw [nmDue, if_neg (by rw [e1]; exact Bool.false_ne_true)]
      exact atL
  rintro v G ⟨L, rfl, sm5, atL⟩
  have VD : VdIs c (vName c tn (vStamp c tb tu)) (nmDue f1 tn (stDue f2 f3 tb tu)) := vd_name en on (vd_stamp eb eu ob ou)
  have B1 : PickAt G p1 v1 f1 := sm5 _ _ A1
  have B0 : PickAt G p2 v2 f0 := sm5 _ _ A0
  have B2 : PickAt G pb x f2 := sm5 _ _ A2
  have B3 : PickAt G pt y f3 := sm5 _ _ A3
  have En := dn.same sm5
  have Eg := dg.same sm5
  have Eb := db.same sm5
  have Eu := du.same sm5
  have tG : Tabs T G := LamX.Tabs.ext t5 sm5
  have sG : Src G a := s5.same sm5
  (with_reducible refine r_gname ?_)
  (with_reducible refine r_seq ?_)
  (with_reducible refine r_if ?_)
  (with_reducible refine r_test ?_)
  (with_reducible refine r_op ?_)
  refine call_dir (i := 4) (j := 3) (l := 6) rfl rfl rfl (lamV_k1 tG) B1 B2 B3 tn tb tu En Eb Eu ⟨on, ln⟩ ob ou VD (fun p G1 ext1 tG1 atp => ?_)
  refine r_var rfl ?_
  refine r_neDue (d := nmDue f1 tn (stDue f2 f3 tb tu)) atp ((LT.ext ext1).l _ _ atL) okD (r_bl (r_iteF ?_))
  have C1 : G1 p1 = some (.tup [v1, .bl f1]) := (LT.ext ext1).t _ _ B1
  have C0 : G1 p2 = some (.tup [v2, .bl f0]) := (LT.ext ext1).t _ _ B0
  have C2 : G1 pb = some (.tup [x, .bl f2]) := (LT.ext ext1).t _ _ B2
  have C3 : G1 pt = some (.tup [y, .bl f3]) := (LT.ext ext1).t _ _ B3
  have CL := (LT.ext ext1).l _ _ atL
  have Fn := Dn.lt (LT.ext ext1) En
  have Fg := Dn.lt (LT.ext ext1) Eg
  have Fb := Dn.lt (LT.ext ext1) Eb
  have Fu := Dn.lt (LT.ext ext1) Eu
  have sG1 : Src G1 a := Src.ext ext1 sG
  (with_reducible refine r_next ?_)
  (with_reducible refine r_seq ?_)
  refine r_ifP (fun σ' H' => ∃ M2, σ' = (((((L2.start N__law_links_right [V.ref a]).set 4 (some (.ref p1))).set 5 (some (.ref p2))).set 3 (some (.ref pb))).set 6 (some (.ref pt))).set 1 (some (.ref M2)) ∧ Same G1 H' ∧ H' M2 = some (.lst (dueV (nmDue f1 tn (nmDue f0 tg (stDue f2 f3 tb tu)))))) ?_ (fun D' k => ?_)
  rotate_left
  · clear m1 e_error mk_Dir mk_Sym mk_Lnk c_pick c_wrong c_rst g_sdue
    cases f1 with
    | true =>
      walk_at "rd"
      exact k _ _ ⟨L, rfl, Same.refl _, CL⟩
    | false =>
      cases f0 with
      | true =>
        walk_at "rd"
        refine r_reprT Fg og ?_
        walk_at "rd"
        rename_i L2 hL2
        exact k _ _ ⟨L2, rfl, same_new hL2, upd_same⟩
      | false =>
        walk_at "rd"
        exact k _ _ ⟨L, rfl, Same.refl _, CL⟩
  rintro σ' G2 ⟨L2, rfl, sm2, atL2⟩
  exact tail_links (sG1.same sm2) (LamX.Tabs.ext tG1 sm2) (sm2 _ _ C1) (sm2 _ _ C0) (sm2 _ _ C2) (sm2 _ _ C3) (Fn.same sm2) (Fg.same sm2) (Fb.same sm2) (Fu.same sm2) ⟨on, ln⟩ ⟨og, lg⟩ ob ou (vd_name en on (vd_name eg og (vd_stamp eb eu ob ou))) (dueOk_nm sn (dueOk_nm sg (dueOk_st sb su))) atL2 (fun GZ xz sz tz => q GZ sz tz ((But.n (b05.trans (Same.but sm5))).trans (ButN.ext (ext1.trans ((ExtN.of sm2).trans xz)))))
end
end Th
/-! a def whose body makes lambdas: its code object told; the head's hook with code tables -/
namespace Th
open PySem PySem.Spec PyProof.Rows L2
/-- a def, and where its code object stands -/
structure FunC (K : PySem.W.Frag) (x qual : Str) (st : Stmt) (f : Addr) (fd : FuncData) (cA : Addr) : Prop where
  ex : ∃ (oc : Value) (od : Option Addr) (kV doc pm : Value) (an : Option Addr) (ct : Value) (osl : Array (Option Value)),
    fd = PySem.W.fnOf x qual (defArgs st) (defBody st) (defScope st) .none kV doc pm an (.ref cA) ct ∧ K.lookup f = some ⟨oc, od, .func fd, osl⟩ ∧ PySem.W.codeIn K (.ref cA) qual = true
  kp : PySem.W.keepIn K (.ref f) = true
section
variable {P : Program} {w : World} {K : PySem.W.Frag} {mg : Str → Option Value} {base : Heap}
theorem FunC.toFun {x qual : Str} {st : Stmt} {f : Addr} {fd : FuncData} {cA : Addr} (F : FunC K x qual st f fd cA) : Fun K x qual st f fd := by
  obtain ⟨oc, od, kV, doc, pm, an, ct, osl, e, l, c⟩ := F.ex
  exact ⟨⟨oc, od, kV, doc, pm, an, .ref cA, ct, osl, e, l, c⟩, F.kp⟩
/-- `Fun.okG` that tells the code object -/
theorem FunC.okG {x qual : Str} {st : Stmt} {f : Addr} {fd : FuncData} {cA : Addr} {N ps : List Str} {k : Nat} {sp : Sp} (F : FunC K x qual st f fd cA) (S : FnScope N ps (defScope st)) (hlen : ∀ vs H Q E, sp vs H Q E → vs.length = ps.length)
    (body : ∀ (A : Around) (outer : List Env) (s : Shared) (H : Hp) (vs : List V) (Q : VK) (E : XK), Room k (A.deeper (envOfC qual (defScope st) s.heap.objs.size f (.ref cA))) → A.guards = some [] → sp vs H Q E →
      ∃ t, PSs (cxOf CX0 P w K mg base N qual (defScope st) f (.ref cA) A outer s H E).nox (defBody st) t ∧ t { nx := fun _ H' => Q .non H', rt := Q } (start N vs) H) : FnG P w K mg base (k + 1) f fd ps sp := by
  obtain ⟨oc, od, kV, doc, pm, an, ct, osl, e, lk, hcd⟩ := F.ex
  subst e
  constructor
  · exact hlen
  · intro A outer s H args us vs Q E room gd env0 bnd rel wish
    have stands : ∀ b o, base.get? b = some o → s.heap.get? b = some o := fun b o e => (env0.bs b o e).1
    have kin := env0.mod.kin.keeps stands
    have nol := env0.mod.nolimit.keeps stands
    apply codeAny_call_function room.depth (kin _ _ lk) rfl S.co S.gen rfl (PySem.W.codeRec_of kin hcd)
    refine bnd _ _ _ _ (wpAny_newFunctionEnv_cells S.kind ?kinds ?go)
    case kinds =>
      rintro ⟨n, v⟩ hy
      cases S.par n (List.of_mem_zip hy).1 with
      | inl q => exact Or.inl q
      | inr q => exact Or.inr ⟨q, PySem.W.cellsFrom_some _ _ _ (Or.inl q)⟩
    case go =>
      intro env he s1 inside
      subst he
      refine ⟨nol.keeps inside.toInCall.keep, codeAny_func ?_⟩
      obtain ⟨t, derived, wished⟩ := body A outer s H vs Q E (room.deeper _) gd wish
      have J := inv_start (CX := CX0) (E := E) S room.hd env0 (hlen _ _ _ _ wish) rel inside
      refine wpAny_mono (derived.nox.run [] s1 _ H _ J wished) ?_ (fun e s' z => z)
      intro fl s' z
      cases fl with
      | next =>
        obtain ⟨σ', H', J', q⟩ := z
        exact ⟨V.non, H', J'.os, J'.bare, J'.base, J'.hok, rfl, q⟩
      | ret u =>
        obtain ⟨v, σ', H', J', rv, q⟩ := z
        exact ⟨v, H', J'.os, J'.bare, J'.base, J'.hok, rv, q⟩
      | brk =>
        obtain ⟨_, _, _, q⟩ := z
        exact q.elim
      | cont =>
        obtain ⟨_, _, _, q⟩ := z
        exact q.elim
end
end Th
namespace Th
open PySem PySem.Spec PyProof.Rows L2
local macro_rules | `(tactic| walk_at "lk") => `(tactic| first
  | assumption
  | exact upd_same
  | (refine upd_old (by assumption) ?_; walk_at "lk")
  | (refine upd_diff (by assumption) ?_; walk_at "lk")
  | (refine upd_diff (Ne.symm (by assumption)) ?_; walk_at "lk"))
local macro_rules | `(tactic| walk_at "cnd") => `(tactic| first
  | omega
  | (refine ⟨by omega, by omega⟩)
  | (refine ⟨by omega, by omega, by omega⟩)
  | (refine .inl ⟨by omega, by omega⟩)
  | (refine .inr ⟨by omega, by omega⟩)
  | (exact (show CPow _ _ from ⟨by decide, by decide, by omega⟩))
  | decide +kernel
  | (unfold CMulW; decide +kernel)
  | (exact wide_div (b := 64) (by omega) (by omega) (by decide) (by decide)))
local macro_rules | `(tactic| walk_at "rd1") => `(tactic| first
  | (with_reducible refine r_seq ?_)
  | (with_reducible refine r_asg ?_)
  | (with_reducible refine r_ret ?_)
  | (with_reducible refine r_if ?_)
  | (with_reducible refine r_gname ?_)
  | ((with_reducible refine' r_var ?hv ?_); (case hv => exact rfl))
  | (with_reducible refine r_c ?_)
  | (with_reducible refine r_op ?_)
  | (with_reducible refine r_I0 ?_)
  | ((with_reducible refine r_I ?hc ?_); (case hc => walk_at "cnd"))
  | (with_reducible refine r_test ?_)
  | (with_reducible refine r_tB ?_)
  | (with_reducible refine r_bl ?_)
  | (with_reducible refine r_not ?_)
  | (with_reducible refine r_and ?_)
  | (with_reducible refine r_or ?_)
  | (with_reducible refine r_ifE ?_)
  | (with_reducible refine r_notV ?_)
  | (with_reducible refine r_andV ?_)
  | (with_reducible refine r_orV ?_)
  | (with_reducible refine r_chain ?_)
  | (with_reducible refine r_cb ?_)
  | (with_reducible refine r_call ?_)
  | (with_reducible refine r_callN ?_)
  | (with_reducible refine r_nil ?_)
  | (with_reducible refine r_cons ?_)
  | ((with_reducible refine r_lst ?_))
  | ((with_reducible refine r_tup ?_))
  | ((with_reducible refine r_new ?_ ?_); (exact Nat.le_of_ble_eq_true rfl); (intro p hp))
  | (with_reducible refine r_rInt1 ?_)
  | (with_reducible refine r_rIntB ?_)
  | (with_reducible refine r_rAbs ?_)
  | (with_reducible refine r_rMin2 ?_)
  | (with_reducible refine r_rMax2 ?_)
  | ((with_reducible refine r_rLenZ ?hz ?_); (case hz => first | assumption | exact Nat.le_of_ble_eq_true rfl | (refine Nat.le_trans ?_ (by decide : 100000 ≤ sizeLine); omega)))
  | ((with_reducible refine r_addZ ?hz ?_); (case hz => (refine Nat.le_trans ?_ (by decide : 100000 ≤ sizeLine); first | omega | (simp only [Str.length] at *; simp; omega))))
  | ((with_reducible refine r_mulZ ?hz ?h0 ?h1 ?_); (case hz => first | omega | exact Nat.le_of_ble_eq_true rfl); (case h0 => omega); (case h1 => omega))
  | ((with_reducible refine' r_rLenQ ?h1 ?_); (case h1 => first | (exact .inl (by assumption)) | (exact .inr (by assumption)) | (exact .inl (SqL.of (by walk_at "lk"))) | (exact .inr (SqT.of (by walk_at "lk")))))
  | ((with_reducible refine r_eq ?hs ?_); (case hs => exact rfl))
  | ((with_reducible refine r_ne ?hs ?_); (case hs => exact rfl))
  | (with_reducible refine r_inC ?_)
  | ((with_reducible refine' r_cat ?h1 ?h2 ?h3 ?_); (case h1 => walk_at "lk"); (case h2 => walk_at "lk"); (case h3 => exact Nat.le_of_ble_eq_true rfl); (intro p hp))
  | ((with_reducible refine' r_rep ?h1 ?h2 ?h3 ?h4 ?_); (case h1 => walk_at "lk"); (case h2 => omega); (case h3 => omega); (case h4 => exact Nat.le_of_ble_eq_true rfl); (intro p hp))
  | ((with_reducible refine' r_append ?h1 ?h2 ?_); (case h1 => walk_at "lk"); (case h2 => first | exact (show _ + 1 ≤ sizeLine from Nat.le_of_ble_eq_true rfl) | exact Nat.lt_of_le_of_lt (by omega : _ ≤ 100000) (by decide)))
  | (with_reducible refine r_bm ?_)
  | ((with_reducible refine' r_tyL ?h1 ?_); (case h1 => walk_at "lk"))
  | ((with_reducible refine' r_ixL ?h1 ?h2 ?_); (case h1 => first | assumption | exact SqL.of (by walk_at "lk")); (case h2 => exact rfl))
  | ((with_reducible refine' r_ixT ?h1 ?h2 ?_); (case h1 => first | assumption | exact SqT.of (by walk_at "lk")); (case h2 => exact rfl))
  | (with_reducible refine r_gsub ?_)
  | ((with_reducible refine' r_setL ?h1 ?h2 ?_); (case h1 => walk_at "lk"); (case h2 => exact rfl))
  | (with_reducible refine r_un ?_)
  | (with_reducible refine r_neg ?_)
  | (with_reducible refine r_iteT ?_)
  | (with_reducible refine r_iteNT ?_)
  | (with_reducible refine r_iteNF ?_)
  | (with_reducible refine r_iteF ?_)
  | (with_reducible refine r_next ?_)
  | (with_reducible refine r_drop ?_)
  | (with_reducible refine r_cont ?_)
  | (with_reducible refine r_brk ?_))
local macro_rules | `(tactic| walk_at "ty") => `(tactic| first
  | assumption
  | exact .base (.int _)
  | exact .base (.str _)
  | exact .base (.bl _)
  | exact .base .non
  | exact .byt _
  | exact .base (.lst (by walk_at "lk"))
  | exact .base (.tup (by walk_at "lk")))
local macro_rules | `(tactic| walk_at "rd2") => `(tactic| first
  | walk_at "rd1"
  | ((with_reducible refine' r_isi true ?ht ?hk ?_); (case ht => walk_at "ty"); (case hk => first | assumption | decide +kernel))
  | ((with_reducible refine' r_isi false ?ht ?hk ?_); (case ht => walk_at "ty"); (case hk => first | assumption | decide +kernel))
  | ((with_reducible refine' r_isiT2 true true ?hT ?ht ?hk ?hk2 ?_); (case hT => walk_at "lk"); (case ht => walk_at "ty"); (case hk => decide +kernel); (case hk2 => decide +kernel))
  | ((with_reducible refine' r_isiT2 true false ?hT ?ht ?hk ?hk2 ?_); (case hT => walk_at "lk"); (case ht => walk_at "ty"); (case hk => decide +kernel); (case hk2 => decide +kernel))
  | ((with_reducible refine' r_isiT2 false true ?hT ?ht ?hk ?hk2 ?_); (case hT => walk_at "lk"); (case ht => walk_at "ty"); (case hk => decide +kernel); (case hk2 => decide +kernel))
  | ((with_reducible refine' r_isiT2 false false ?hT ?ht ?hk ?hk2 ?_); (case hT => walk_at "lk"); (case ht => walk_at "ty"); (case hk => decide +kernel); (case hk2 => decide +kernel))
  | (with_reducible refine r_iteNT ?_)
  | ((show (if (!true) = true then _ else _)); refine r_iteNT ?_)
  | (with_reducible refine r_r1 ?_)
  | (with_reducible refine r_maks ?_)
  | (with_reducible refine r_sfld ?_)
  | ((with_reducible refine' r_sfldE ?h1 ?h2 ?h3 ?h4 ?_); (case h1 => walk_at "lk"); (case h2 => assumption); (case h3 => assumption); (case h4 => exact (show _ + 1 ≤ 1000 from Nat.le_of_ble_eq_true rfl)))
  | (with_reducible refine r_fld ?_)
  | (with_reducible refine r_join ?_)
  | (with_reducible refine r_jcons ?_)
  | (with_reducible refine r_jnil ?_)
  | ((with_reducible refine r_rLenY ?hz ?_); (case hz => first | assumption | (refine Nat.le_trans ?_ (by decide : 100000 ≤ sizeLine); omega)))
  | (with_reducible refine r_par ?_)
  | (with_reducible refine r_pair ?_)
  | (with_reducible refine r_par3 ?_)
  | (with_reducible refine r_trip ?_)
  | ((with_reducible refine' r_gtup ?h1 ?h2 ?_); (case h1 => first | assumption | exact SqT.of (by walk_at "lk")); (case h2 => exact rfl))
  | (with_reducible refine r_gcons ?_)
  | (with_reducible refine r_gnil ?_)
  | ((with_reducible refine' r_slL ?h1 ?_); (case h1 => first | assumption | exact SqL.of (by walk_at "lk")); (intro p hp))
  | (with_reducible refine r_iTup ?_)
  | ((with_reducible refine' r_tupE ?h1 ?_); (case h1 => first | assumption | exact SqT.of (by walk_at "lk")))
  | (with_reducible refine r_m1 ?_)
  | (with_reducible refine r_isZ ?_)
  | (with_reducible refine r_sl ?_)
  | (with_reducible refine r_noPart ?_)
  | (with_reducible refine r_part ?_)
  | (with_reducible refine r_partE ?_)
  | ((with_reducible refine r_slS ?hz ?_); (case hz => first | assumption | (refine Nat.le_trans ?_ (by decide : 100000 ≤ sizeLine); omega)))
  | ((with_reducible refine' r_inT ?h1 ?h2 ?h3 ?_); (case h1 => first | assumption | (exact SqT.of (by walk_at "lk"))); (case h2 => exact rfl); (case h3 => exact rfl))
  | ((with_reducible refine' r_inL ?h1 ?h2 ?h3 ?_); (case h1 => first | assumption | (exact SqL.of (by walk_at "lk"))); (case h2 => exact rfl); (case h3 => exact rfl))
  | (with_reducible refine r_lc ?_)
  | (with_reducible refine r_for ?_)
  | (with_reducible refine r_iStr ?_)
  | (with_reducible refine r_strE ?_)
  | (with_reducible refine r_iList ?_)
  | ((with_reducible refine' r_listE ?h1 ?_); (case h1 => first | assumption | exact SqL.of (by walk_at "lk")))
  | (with_reducible refine r_iRng1 ?_)
  | ((with_reducible refine' r_rngE ?h0 ?h1 ?_); (case h0 => first | omega | (split <;> omega)); (case h1 => first | omega | (split <;> omega))))
local macro_rules | `(tactic| walk_at "rd") => `(tactic| (repeat walk_at "rd2"))
local macro_rules | `(tactic| walk_at "st") => `(tactic| (repeat (first
  | (with_reducible refine r_gname ?_)
  | (with_reducible refine r_next ?_)
  | (with_reducible refine r_seq ?_)
  | (with_reducible refine r_asg ?_)
  | (with_reducible refine r_ret ?_)
  | (with_reducible refine r_for ?_)
  | (with_reducible refine r_iRng1 ?_)
  | (with_reducible refine r_iList ?_)
  | (with_reducible refine r_cons ?_)
  | (with_reducible refine r_par ?_)
  | (with_reducible refine r_par3 ?_))))
open LamX (Tabs TabB ExtN)
section
variable {P : Program} {w : World} {K : PySem.W.Frag} {mg : Str → Option Value} {base : Heap}
theorem ok_links {f : Addr} {fd : FuncData} {cA PA : Addr} {T : List (Addr × Str)} {c : Ec} {kk : Ek} (F : FunC K "_law_links_right" "_law_links_right" s__law_links_right f fd cA) (TB : TabB base mg cA PA)
    (inT : (PA, ("_law_links_right" : Str) ++ ".<locals>.<lambda>") ∈ T) (one : ∀ p ∈ T, p.1 = PA → p.2 = ("_law_links_right" : Str) ++ ".<locals>.<lambda>")
    (e_error : CalL P w K mg base 14 "_law_error" (TTerr c)) (m1 : mg "repr" = none)
    (mk_Dir : MakX P w K mg base 11 "Directory" kk.D ["mode", "time"] (pX (spDirX c kk.D))) (mk_Sym : MakX P w K mg base 11 "Symlink" kk.Y ["mode", "time"] (pX (spLnkX c kk.Y))) (mk_Lnk : MakX P w K mg base 11 "Link" kk.L ["mode", "time"] (pX (spLnkX c kk.L)))
    (c_pick : CalT P w K mg base 4 "_law_pick" spPick) (c_wrong : CalT P w K mg base 5 "_law_wrong_names" spWrong) (c_rst : CalT P w K mg base 6 "_law_random_stamps" spRSt) (g_sdue : CalG P w K mg base 4 "_law_stamps_due" spSDue) :
    FnG P w K mg base 17 f fd ["_law_source_here"] (spLinks T) := by
  refine F.okG sc__law_links_right (fun vs H Q E h => ?_) (fun A outer s H vs Q E hr gd h => ?_)
  · obtain ⟨a, rfl, _⟩ := h
    rfl
  · exact walk_links TB rfl inT one hr gd e_error m1 mk_Dir mk_Sym mk_Lnk c_pick c_wrong c_rst g_sdue h
end
end Th
namespace Th
open PySem PySem.Spec PyProof.Rows L2
local macro_rules | `(tactic| walk_at "lk") => `(tactic| first
  | assumption
  | exact upd_same
  | (refine upd_old (by assumption) ?_; walk_at "lk")
  | (refine upd_diff (by assumption) ?_; walk_at "lk")
  | (refine upd_diff (Ne.symm (by assumption)) ?_; walk_at "lk"))
local macro_rules | `(tactic| walk_at "cnd") => `(tactic| first
  | omega
  | (refine ⟨by omega, by omega⟩)
  | (refine ⟨by omega, by omega, by omega⟩)
  | (refine .inl ⟨by omega, by omega⟩)
  | (refine .inr ⟨by omega, by omega⟩)
  | (exact (show CPow _ _ from ⟨by decide, by decide, by omega⟩))
  | decide +kernel
  | (unfold CMulW; decide +kernel)
  | (exact wide_div (b := 64) (by omega) (by omega) (by decide) (by decide)))
local macro_rules | `(tactic| walk_at "rd1") => `(tactic| first
  | (with_reducible refine r_seq ?_)
  | (with_reducible refine r_asg ?_)
  | (with_reducible refine r_ret ?_)
  | (with_reducible refine r_if ?_)
  | (with_reducible refine r_gname ?_)
  | ((with_reducible refine' r_var ?hv ?_); (case hv => exact rfl))
  | (with_reducible refine r_c ?_)
  | (with_reducible refine r_op ?_)
  | (with_reducible refine r_I0 ?_)
  | ((with_reducible refine r_I ?hc ?_); (case hc => walk_at "cnd"))
  | (with_reducible refine r_test ?_)
  | (with_reducible refine r_tB ?_)
  | (with_reducible refine r_bl ?_)
  | (with_reducible refine r_not ?_)
  | (with_reducible refine r_and ?_)
  | (with_reducible refine r_or ?_)
  | (with_reducible refine r_ifE ?_)
  | (with_reducible refine r_notV ?_)
  | (with_reducible refine r_andV ?_)
  | (with_reducible refine r_orV ?_)
  | (with_reducible refine r_chain ?_)
  | (with_reducible refine r_cb ?_)
  | (with_reducible refine r_call ?_)
  | (with_reducible refine r_callN ?_)
  | (with_reducible refine r_nil ?_)
  | (with_reducible refine r_cons ?_)
  | ((with_reducible refine r_lst ?_))
  | ((with_reducible refine r_tup ?_))
  | ((with_reducible refine r_new ?_ ?_); (exact Nat.le_of_ble_eq_true rfl); (intro p hp))
  | (with_reducible refine r_rInt1 ?_)
  | (with_reducible refine r_rIntB ?_)
  | (with_reducible refine r_rAbs ?_)
  | (with_reducible refine r_rMin2 ?_)
  | (with_reducible refine r_rMax2 ?_)
  | ((with_reducible refine r_rLenZ ?hz ?_); (case hz => first | assumption | exact Nat.le_of_ble_eq_true rfl | (refine Nat.le_trans ?_ (by decide : 100000 ≤ sizeLine); omega)))
  | ((with_reducible refine r_addZ ?hz ?_); (case hz => (refine Nat.le_trans ?_ (by decide : 100000 ≤ sizeLine); first | omega | (simp only [Str.length] at *; simp; omega))))
  | ((with_reducible refine r_mulZ ?hz ?h0 ?h1 ?_); (case hz => first | omega | exact Nat.le_of_ble_eq_true rfl); (case h0 => omega); (case h1 => omega))
  | ((with_reducible refine' r_rLenQ ?h1 ?_); (case h1 => first | (exact .inl (by assumption)) | (exact .inr (by assumption)) | (exact .inl (SqL.of (by walk_at "lk"))) | (exact .inr (SqT.of (by walk_at "lk")))))
  | ((with_reducible refine r_eq ?hs ?_); (case hs => exact rfl))
  | ((with_reducible refine r_ne ?hs ?_); (case hs => exact rfl))
  | (with_reducible refine r_inC ?_)
  | ((with_reducible refine' r_cat ?h1 ?h2 ?h3 ?_); (case h1 => walk_at "lk"); (case h2 => walk_at "lk"); (case h3 => exact Nat.le_of_ble_eq_true rfl); (intro p hp))
  | ((with_reducible refine' r_rep ?h1 ?h2 ?h3 ?h4 ?_); (case h1 => walk_at "lk"); (case h2 => omega); (case h3 => omega); (case h4 => exact Nat.le_of_ble_eq_true rfl); (intro p hp))
  | ((with_reducible refine' r_append ?h1 ?h2 ?_); (case h1 => walk_at "lk"); (case h2 => first | exact (show _ + 1 ≤ sizeLine from Nat.le_of_ble_eq_true rfl) | exact Nat.lt_of_le_of_lt (by omega : _ ≤ 100000) (by decide)))
  | (with_reducible refine r_bm ?_)
  | ((with_reducible refine' r_tyL ?h1 ?_); (case h1 => walk_at "lk"))
  | ((with_reducible refine' r_ixL ?h1 ?h2 ?_); (case h1 => first | assumption | exact SqL.of (by walk_at "lk")); (case h2 => exact rfl))
  | ((with_reducible refine' r_ixT ?h1 ?h2 ?_); (case h1 => first | assumption | exact SqT.of (by walk_at "lk")); (case h2 => exact rfl))
  | (with_reducible refine r_gsub ?_)
  | ((with_reducible refine' r_setL ?h1 ?h2 ?_); (case h1 => walk_at "lk"); (case h2 => exact rfl))
  | (with_reducible refine r_un ?_)
  | (with_reducible refine r_neg ?_)
  | (with_reducible refine r_iteT ?_)
  | (with_reducible refine r_iteNT ?_)
  | (with_reducible refine r_iteNF ?_)
  | (with_reducible refine r_iteF ?_)
  | (with_reducible refine r_next ?_)
  | (with_reducible refine r_drop ?_)
  | (with_reducible refine r_cont ?_)
  | (with_reducible refine r_brk ?_))
local macro_rules | `(tactic| walk_at "ty") => `(tactic| first
  | assumption
  | exact .base (.int _)
  | exact .base (.str _)
  | exact .base (.bl _)
  | exact .base .non
  | exact .byt _
  | exact .base (.lst (by walk_at "lk"))
  | exact .base (.tup (by walk_at "lk")))
local macro_rules | `(tactic| walk_at "rd2") => `(tactic| first
  | walk_at "rd1"
  | ((with_reducible refine' r_isi true ?ht ?hk ?_); (case ht => walk_at "ty"); (case hk => first | assumption | decide +kernel))
  | ((with_reducible refine' r_isi false ?ht ?hk ?_); (case ht => walk_at "ty"); (case hk => first | assumption | decide +kernel))
  | ((with_reducible refine' r_isiT2 true true ?hT ?ht ?hk ?hk2 ?_); (case hT => walk_at "lk"); (case ht => walk_at "ty"); (case hk => decide +kernel); (case hk2 => decide +kernel))
  | ((with_reducible refine' r_isiT2 true false ?hT ?ht ?hk ?hk2 ?_); (case hT => walk_at "lk"); (case ht => walk_at "ty"); (case hk => decide +kernel); (case hk2 => decide +kernel))
  | ((with_reducible refine' r_isiT2 false true ?hT ?ht ?hk ?hk2 ?_); (case hT => walk_at "lk"); (case ht => walk_at "ty"); (case hk => decide +kernel); (case hk2 => decide +kernel))
  | ((with_reducible refine' r_isiT2 false false ?hT ?ht ?hk ?hk2 ?_); (case hT => walk_at "lk"); (case ht => walk_at "ty"); (case hk => decide +kernel); (case hk2 => decide +kernel))
  | (with_reducible refine r_iteNT ?_)
  | ((show (if (!true) = true then _ else _)); refine r_iteNT ?_)
  | (with_reducible refine r_r1 ?_)
  | (with_reducible refine r_maks ?_)
  | (with_reducible refine r_sfld ?_)
  | ((with_reducible refine' r_sfldE ?h1 ?h2 ?h3 ?h4 ?_); (case h1 => walk_at "lk"); (case h2 => assumption); (case h3 => assumption); (case h4 => exact (show _ + 1 ≤ 1000 from Nat.le_of_ble_eq_true rfl)))
  | (with_reducible refine r_fld ?_)
  | (with_reducible refine r_join ?_)
  | (with_reducible refine r_jcons ?_)
  | (with_reducible refine r_jnil ?_)
  | ((with_reducible refine r_rLenY ?hz ?_); (case hz => first | assumption | (refine Nat.le_trans ?_ (by decide : 100000 ≤ sizeLine); omega)))
  | (with_reducible refine r_par ?_)
  | (with_reducible refine r_pair ?_)
  | (with_reducible refine r_par3 ?_)
  | (with_reducible refine r_trip ?_)
  | ((with_reducible refine' r_gtup ?h1 ?h2 ?_); (case h1 => first | assumption | exact SqT.of (by walk_at "lk")); (case h2 => exact rfl))
  | (with_reducible refine r_gcons ?_)
  | (with_reducible refine r_gnil ?_)
  | ((with_reducible refine' r_slL ?h1 ?_); (case h1 => first | assumption | exact SqL.of (by walk_at "lk")); (intro p hp))
  | (with_reducible refine r_iTup ?_)
  | ((with_reducible refine' r_tupE ?h1 ?_); (case h1 => first | assumption | exact SqT.of (by walk_at "lk")))
  | (with_reducible refine r_m1 ?_)
  | (with_reducible refine r_isZ ?_)
  | (with_reducible refine r_sl ?_)
  | (with_reducible refine r_noPart ?_)
  | (with_reducible refine r_part ?_)
  | (with_reducible refine r_partE ?_)
  | ((with_reducible refine r_slS ?hz ?_); (case hz => first | assumption | (refine Nat.le_trans ?_ (by decide : 100000 ≤ sizeLine); omega)))
  | ((with_reducible refine' r_inT ?h1 ?h2 ?h3 ?_); (case h1 => first | assumption | (exact SqT.of (by walk_at "lk"))); (case h2 => exact rfl); (case h3 => exact rfl))
  | ((with_reducible refine' r_inL ?h1 ?h2 ?h3 ?_); (case h1 => first | assumption | (exact SqL.of (by walk_at "lk"))); (case h2 => exact rfl); (case h3 => exact rfl))
  | (with_reducible refine r_lc ?_)
  | (with_reducible refine r_for ?_)
  | (with_reducible refine r_iStr ?_)
  | (with_reducible refine r_strE ?_)
  | (with_reducible refine r_iList ?_)
  | ((with_reducible refine' r_listE ?h1 ?_); (case h1 => first | assumption | exact SqL.of (by walk_at "lk")))
  | (with_reducible refine r_iRng1 ?_)
  | ((with_reducible refine' r_rngE ?h0 ?h1 ?_); (case h0 => first | omega | (split <;> omega)); (case h1 => first | omega | (split <;> omega))))
local macro_rules | `(tactic| walk_at "rd") => `(tactic| (repeat walk_at "rd2"))
local macro_rules | `(tactic| walk_at "st") => `(tactic| (repeat (first
  | (with_reducible refine r_gname ?_)
  | (with_reducible refine r_next ?_)
  | (with_reducible refine r_seq ?_)
  | (with_reducible refine r_asg ?_)
  | (with_reducible refine r_ret ?_)
  | (with_reducible refine r_for ?_)
  | (with_reducible refine r_iRng1 ?_)
  | (with_reducible refine r_iList ?_)
  | (with_reducible refine r_cons ?_)
  | (with_reducible refine r_par ?_)
  | (with_reducible refine r_par3 ?_))))
open LamX (Tabs TabB ExtN)
/-! ### files: what is due -/
def kDue (k : Str) (f : Bool) (t : Tr) (due : Option (Str × Tr)) : Option (Str × Tr) := if f = true then some (k, t) else due
theorem dueOk_k {k : Str} {f : Bool} {t : Tr} {d : Option (Str × Tr)} (hk : PyData.strOk k = true) (h : PyData.strOk t.shown = true) (hd : dueOk d) : dueOk (kDue k f t d) := fun j u e => by
  unfold kDue at e
  cases f with
  | true =>
    cases Option.some.inj e
    exact ⟨hk, h⟩
  | false => exact hd j u e
theorem vd_data {c : Ec} {t : Tr} {f : Bool} {r : Vd} {due : Option (Str × Tr)} (h1 : t.dataB = !f) (o1 : TOk t) (is : VdIs c r due) : VdIs c (vData c t r) (kDue "data" f t due) := by
  cases f with
  | true => exact .inr ⟨c.D, "data", "thing", t, vData_no h1, by simp [etab], rfl, o1⟩
  | false =>
    rw [vData_ok h1]
    exact is
theorem vPieces_s {c : Ec} {z : Tr} {ts : List Tr} {r : Vd} (h : z.within 0 4096 = false) : vPieces c z ts r = .err c.S "size" z := by
  cases z with
  | int i => exact if_neg (by rw [h]; exact Bool.false_ne_true)
  | _ => rfl
theorem vPieces_p {c : Ec} {i : Int} {ts : List Tr} {r : Vd} (h : (Tr.int i).within 0 4096 = true) (h2 : piecesB i ts = false) : vPieces c (.int i) ts r = .err c.P "pieces" (.tup ts) := (if_pos h).trans (if_neg (by rw [h2]; exact Bool.false_ne_true))
theorem vPieces_k {c : Ec} {i : Int} {ts : List Tr} {r : Vd} (h : (Tr.int i).within 0 4096 = true) (h2 : piecesB i ts = true) : vPieces c (.int i) ts r = r := (if_pos h).trans (if_pos h2)
theorem vd_pieces {c : Ec} {z : Tr} {ts : List Tr} {f2 f3 : Bool} {r : Vd} {due : Option (Str × Tr)} (h2 : z.within 0 4096 = !f2) (h3 : ∀ i, z = .int i → f2 = false → piecesB i ts = !f3) (o2 : TOk z) (o3 : TOk (.tup ts)) (is : VdIs c r due) :
    VdIs c (vPieces c z ts r) (kDue "size" f2 z (kDue "pieces" f3 (.tup ts) due)) := by
  cases f2 with
  | true => exact .inr ⟨c.S, "size", "size", z, vPieces_s h2, by simp [etab], rfl, o2⟩
  | false =>
    cases z with
    | int i =>
      have h4 := h3 i rfl rfl
      cases f3 with
      | true => exact .inr ⟨c.P, "pieces", "pieces", .tup ts, vPieces_p h2 h4, by simp [etab], rfl, o3⟩
      | false =>
        rw [vPieces_k h2 h4]
        exact is
    | _ => cases h2
/-- a lambda written where it is called, that makes a member -/
theorem call_deed {c : Ec} {K : PySem.W.Frag} {T : List (Addr × Str)} {te : TE} {q : Str} {ps : Arguments} {bd : Expr} {sc : Scope} {cl : List (Str × Addr)} {C : Addr} {sp : List V → List V → Hp → VK → XK → Prop} {t tk : TA} {vs zs : List V} {vd : Vd} {due : Option (Str × Tr)} {σ : L2.St} {H : Hp} {Qc : VK}
    (k1 : ∀ Q' : VK, (∀ f cc H1, ExtN H H1 → Tabs T H1 → H1 f = some (LamO q ps bd sc cl cc f) → H1 cc = some (LamX.CodeO cc q) → Q' (.ref f) H1) → te σ H Q')
    (pos : ∀ H1 Qa, LT H H1 → Qa vs H1 → t σ H1 Qa) (kw : ∀ H1 Qa, LT H H1 → Qa zs H1 → tk σ H1 Qa) (hz : zs.length = 2) (is : VdIs c vd due)
    (hsp : ∀ x dx H2 Q E, LT H H2 → H2 x = some (.ins C dx []) → vd.run H2 (∀ H', Frame x H2 H' → Q .non H') E → sp (.ref x :: vs) zs H2 Q E)
    (k : ∀ p G, ExtN H G → Tabs T G → G p = some (.lst (dueV due)) → Qc (.ref p) G) :
    tCallT te q ps bd sc cl (TTerr c) (fun E => tMakX sp 2 C E t tk) σ H Qc := by
  refine k1 _ fun f cc H1 ext tabs1 hf hcc => ⟨f, cc, rfl, hf, hcc, fun E R hE hR => ?_⟩
  have lt := LT.ext ext
  refine r_makX (pos H1 _ lt (kw H1 _ lt ⟨hz, fun x dx hx hd nd => ?_⟩))
  have sm : Same H1 (upd (upd H1 dx (.own x)) x (.ins C dx [])) := frame_new hx hd (fun _ _ _ e => e)
  refine hsp x dx _ _ _ (lt.trans (LT.of sm)) upd_same (deed_run is hE hR fun p G fr hp => ?_)
  have sm2 : Same H1 G := frame_new hx hd fr
  exact k p G (fun b o e no => sm2 b o (ext b o e no)) (LamX.Tabs.ext tabs1 sm2) hp
theorem hsp_file {c : Ec} {C : Addr} {H : Hp} {n y b u : V} {tn ty tb tu : Tr} (d1 : Dn H n tn) (d2 : Dn H y ty) (d3 : Dn H b tb) (d4 : Dn H u tu) (o1 : NmOk tn) (o2 : TOk ty) (o3 : TOk tb) (o4 : TOk tu) :
    ∀ x dx H2 Q E, LT H H2 → H2 x = some (.ins C dx []) → (vName c tn (vData c ty (vStamp c tb tu))).run H2 (∀ H', Frame x H2 H' → Q .non H') E → pX (spFileX c C) (.ref x :: [n, y]) [b, u] H2 Q E :=
  fun x dx H2 Q E lt hx q => ⟨x, dx, n, y, b, u, tn, ty, tb, tu, rfl, hx, d1.lt lt, d2.lt lt, d3.lt lt, d4.lt lt, o1, o2, o3, o4, q⟩
theorem hsp_spa {c : Ec} {C : Addr} {H : Hp} {n z b u : V} {tn tz tb tu : Tr} {xs : List V} {ts : List Tr} (d1 : Dn H n tn) (d2 : Dn H z tz) (d3 : Dn H b tb) (d4 : Dn H u tu) (d5 : DnA H xs ts) (o1 : NmOk tn) (o2 : TOk tz) (o3 : TOk tb) (o4 : TOk tu) (o5 : TOk (.tup ts)) (hl : ts.length ≤ 50) :
    ∀ x dx H2 Q E, LT H H2 → H2 x = some (.ins C dx []) → (vName c tn (vPieces c tz ts (vStamp c tb tu))).run H2 (∀ H', Frame x H2 H' → Q .non H') E → spSpa c C (.ref x :: n :: z :: xs) [b, u] H2 Q E :=
  fun x dx H2 Q E lt hx q => ⟨x, dx, n, z, b, u, tn, tz, tb, tu, xs, ts, rfl, rfl, hx, d1.lt lt, d2.lt lt, d3.lt lt, d4.lt lt, d5.lt lt, o1, o2, o3, o4, o5, hl, q⟩
end Th
namespace Th
open PySem PySem.Spec PyProof.Rows L2
local macro_rules | `(tactic| walk_at "lk") => `(tactic| first
  | assumption
  | exact upd_same
  | (refine upd_old (by assumption) ?_; walk_at "lk")
  | (refine upd_diff (by assumption) ?_; walk_at "lk")
  | (refine upd_diff (Ne.symm (by assumption)) ?_; walk_at "lk"))
local macro_rules | `(tactic| walk_at "cnd") => `(tactic| first
  | omega
  | (refine ⟨by omega, by omega⟩)
  | (refine ⟨by omega, by omega, by omega⟩)
  | (refine .inl ⟨by omega, by omega⟩)
  | (refine .inr ⟨by omega, by omega⟩)
  | (exact (show CPow _ _ from ⟨by decide, by decide, by omega⟩))
  | decide +kernel
  | (unfold CMulW; decide +kernel)
  | (exact wide_div (b := 64) (by omega) (by omega) (by decide) (by decide)))
local macro_rules | `(tactic| walk_at "rd1") => `(tactic| first
  | (with_reducible refine r_seq ?_)
  | (with_reducible refine r_asg ?_)
  | (with_reducible refine r_ret ?_)
  | (with_reducible refine r_if ?_)
  | (with_reducible refine r_gname ?_)
  | ((with_reducible refine' r_var ?hv ?_); (case hv => exact rfl))
  | (with_reducible refine r_c ?_)
  | (with_reducible refine r_op ?_)
  | (with_reducible refine r_I0 ?_)
  | ((with_reducible refine r_I ?hc ?_); (case hc => walk_at "cnd"))
  | (with_reducible refine r_test ?_)
  | (with_reducible refine r_tB ?_)
  | (with_reducible refine r_bl ?_)
  | (with_reducible refine r_not ?_)
  | (with_reducible refine r_and ?_)
  | (with_reducible refine r_or ?_)
  | (with_reducible refine r_ifE ?_)
  | (with_reducible refine r_notV ?_)
  | (with_reducible refine r_andV ?_)
  | (with_reducible refine r_orV ?_)
  | (with_reducible refine r_chain ?_)
  | (with_reducible refine r_cb ?_)
  | (with_reducible refine r_call ?_)
  | (with_reducible refine r_callN ?_)
  | (with_reducible refine r_nil ?_)
  | (with_reducible refine r_cons ?_)
  | ((with_reducible refine r_lst ?_))
  | ((with_reducible refine r_tup ?_))
  | ((with_reducible refine r_new ?_ ?_); (exact Nat.le_of_ble_eq_true rfl); (intro p hp))
  | (with_reducible refine r_rInt1 ?_)
  | (with_reducible refine r_rIntB ?_)
  | (with_reducible refine r_rAbs ?_)
  | (with_reducible refine r_rMin2 ?_)
  | (with_reducible refine r_rMax2 ?_)
  | ((with_reducible refine r_rLenZ ?hz ?_); (case hz => first | assumption | exact Nat.le_of_ble_eq_true rfl | (refine Nat.le_trans ?_ (by decide : 100000 ≤ sizeLine); omega)))
  | ((with_reducible refine r_addZ ?hz ?_); (case hz => (refine Nat.le_trans ?_ (by decide : 100000 ≤ sizeLine); first | omega | (simp only [Str.length] at *; simp; omega))))
  | ((with_reducible refine r_mulZ ?hz ?h0 ?h1 ?_); (case hz => first | omega | exact Nat.le_of_ble_eq_true rfl); (case h0 => omega); (case h1 => omega))
  | ((with_reducible refine' r_rLenQ ?h1 ?_); (case h1 => first | (exact .inl (by assumption)) | (exact .inr (by assumption)) | (exact .inl (SqL.of (by walk_at "lk"))) | (exact .inr (SqT.of (by walk_at "lk")))))
  | ((with_reducible refine r_eq ?hs ?_); (case hs => exact rfl))
  | ((with_reducible refine r_ne ?hs ?_); (case hs => exact rfl))
  | (with_reducible refine r_inC ?_)
  | ((with_reducible refine' r_cat ?h1 ?h2 ?h3 ?_); (case h1 => walk_at "lk"); (case h2 => walk_at "lk"); (case h3 => exact Nat.le_of_ble_eq_true rfl); (intro p hp))
  | ((with_reducible refine' r_rep ?h1 ?h2 ?h3 ?h4 ?_); (case h1 => walk_at "lk"); (case h2 => omega); (case h3 => omega); (case h4 => exact Nat.le_of_ble_eq_true rfl); (intro p hp))
  | ((with_reducible refine' r_append ?h1 ?h2 ?_); (case h1 => walk_at "lk"); (case h2 => first | exact (show _ + 1 ≤ sizeLine from Nat.le_of_ble_eq_true rfl) | exact Nat.lt_of_le_of_lt (by omega : _ ≤ 100000) (by decide)))
  | (with_reducible refine r_bm ?_)
  | ((with_reducible refine' r_tyL ?h1 ?_); (case h1 => walk_at "lk"))
  | ((with_reducible refine' r_ixL ?h1 ?h2 ?_); (case h1 => first | assumption | exact SqL.of (by walk_at "lk")); (case h2 => exact rfl))
  | ((with_reducible refine' r_ixT ?h1 ?h2 ?_); (case h1 => first | assumption | exact SqT.of (by walk_at "lk")); (case h2 => exact rfl))
  | (with_reducible refine r_gsub ?_)
  | ((with_reducible refine' r_setL ?h1 ?h2 ?_); (case h1 => walk_at "lk"); (case h2 => exact rfl))
  | (with_reducible refine r_un ?_)
  | (with_reducible refine r_neg ?_)
  | (with_reducible refine r_iteT ?_)
  | (with_reducible refine r_iteNT ?_)
  | (with_reducible refine r_iteNF ?_)
  | (with_reducible refine r_iteF ?_)
  | (with_reducible refine r_next ?_)
  | (with_reducible refine r_drop ?_)
  | (with_reducible refine r_cont ?_)
  | (with_reducible refine r_brk ?_))
local macro_rules | `(tactic| walk_at "ty") => `(tactic| first
  | assumption
  | exact .base (.int _)
  | exact .base (.str _)
  | exact .base (.bl _)
  | exact .base .non
  | exact .byt _
  | exact .base (.lst (by walk_at "lk"))
  | exact .base (.tup (by walk_at "lk")))
local macro_rules | `(tactic| walk_at "rd2") => `(tactic| first
  | walk_at "rd1"
  | ((with_reducible refine' r_isi true ?ht ?hk ?_); (case ht => walk_at "ty"); (case hk => first | assumption | decide +kernel))
  | ((with_reducible refine' r_isi false ?ht ?hk ?_); (case ht => walk_at "ty"); (case hk => first | assumption | decide +kernel))
  | ((with_reducible refine' r_isiT2 true true ?hT ?ht ?hk ?hk2 ?_); (case hT => walk_at "lk"); (case ht => walk_at "ty"); (case hk => decide +kernel); (case hk2 => decide +kernel))
  | ((with_reducible refine' r_isiT2 true false ?hT ?ht ?hk ?hk2 ?_); (case hT => walk_at "lk"); (case ht => walk_at "ty"); (case hk => decide +kernel); (case hk2 => decide +kernel))
  | ((with_reducible refine' r_isiT2 false true ?hT ?ht ?hk ?hk2 ?_); (case hT => walk_at "lk"); (case ht => walk_at "ty"); (case hk => decide +kernel); (case hk2 => decide +kernel))
  | ((with_reducible refine' r_isiT2 false false ?hT ?ht ?hk ?hk2 ?_); (case hT => walk_at "lk"); (case ht => walk_at "ty"); (case hk => decide +kernel); (case hk2 => decide +kernel))
  | (with_reducible refine r_iteNT ?_)
  | ((show (if (!true) = true then _ else _)); refine r_iteNT ?_)
  | (with_reducible refine r_r1 ?_)
  | (with_reducible refine r_maks ?_)
  | (with_reducible refine r_sfld ?_)
  | ((with_reducible refine' r_sfldE ?h1 ?h2 ?h3 ?h4 ?_); (case h1 => walk_at "lk"); (case h2 => assumption); (case h3 => assumption); (case h4 => exact (show _ + 1 ≤ 1000 from Nat.le_of_ble_eq_true rfl)))
  | (with_reducible refine r_fld ?_)
  | (with_reducible refine r_join ?_)
  | (with_reducible refine r_jcons ?_)
  | (with_reducible refine r_jnil ?_)
  | ((with_reducible refine r_rLenY ?hz ?_); (case hz => first | assumption | (refine Nat.le_trans ?_ (by decide : 100000 ≤ sizeLine); omega)))
  | (with_reducible refine r_par ?_)
  | (with_reducible refine r_pair ?_)
  | (with_reducible refine r_par3 ?_)
  | (with_reducible refine r_trip ?_)
  | ((with_reducible refine' r_gtup ?h1 ?h2 ?_); (case h1 => first | assumption | exact SqT.of (by walk_at "lk")); (case h2 => exact rfl))
  | (with_reducible refine r_gcons ?_)
  | (with_reducible refine r_gnil ?_)
  | ((with_reducible refine' r_slL ?h1 ?_); (case h1 => first | assumption | exact SqL.of (by walk_at "lk")); (intro p hp))
  | (with_reducible refine r_iTup ?_)
  | ((with_reducible refine' r_tupE ?h1 ?_); (case h1 => first | assumption | exact SqT.of (by walk_at "lk")))
  | (with_reducible refine r_m1 ?_)
  | (with_reducible refine r_isZ ?_)
  | (with_reducible refine r_sl ?_)
  | (with_reducible refine r_noPart ?_)
  | (with_reducible refine r_part ?_)
  | (with_reducible refine r_partE ?_)
  | ((with_reducible refine r_slS ?hz ?_); (case hz => first | assumption | (refine Nat.le_trans ?_ (by decide : 100000 ≤ sizeLine); omega)))
  | ((with_reducible refine' r_inT ?h1 ?h2 ?h3 ?_); (case h1 => first | assumption | (exact SqT.of (by walk_at "lk"))); (case h2 => exact rfl); (case h3 => exact rfl))
  | ((with_reducible refine' r_inL ?h1 ?h2 ?h3 ?_); (case h1 => first | assumption | (exact SqL.of (by walk_at "lk"))); (case h2 => exact rfl); (case h3 => exact rfl))
  | (with_reducible refine r_lc ?_)
  | (with_reducible refine r_for ?_)
  | (with_reducible refine r_iStr ?_)
  | (with_reducible refine r_strE ?_)
  | (with_reducible refine r_iList ?_)
  | ((with_reducible refine' r_listE ?h1 ?_); (case h1 => first | assumption | exact SqL.of (by walk_at "lk")))
  | (with_reducible refine r_iRng1 ?_)
  | ((with_reducible refine' r_rngE ?h0 ?h1 ?_); (case h0 => first | omega | (split <;> omega)); (case h1 => first | omega | (split <;> omega))))
local macro_rules | `(tactic| walk_at "rd") => `(tactic| (repeat walk_at "rd2"))
local macro_rules | `(tactic| walk_at "st") => `(tactic| (repeat (first
  | (with_reducible refine r_gname ?_)
  | (with_reducible refine r_next ?_)
  | (with_reducible refine r_seq ?_)
  | (with_reducible refine r_asg ?_)
  | (with_reducible refine r_ret ?_)
  | (with_reducible refine r_for ?_)
  | (with_reducible refine r_iRng1 ?_)
  | (with_reducible refine r_iList ?_)
  | (with_reducible refine r_cons ?_)
  | (with_reducible refine r_par ?_)
  | (with_reducible refine r_par3 ?_))))
open LamX (Tabs TabB ExtN)
theorem flat_rep {i : Int} : ∀ n : Nat, (List.replicate n [V.int i]).flatten = (List.replicate n i).map V.int
  | 0 => rfl
  | n + 1 => by
    rw [List.replicate_succ, List.flatten_cons, flat_rep n, List.replicate_succ, List.map_cons]
    rfl
theorem rep_byte {i : Int} (h : inByte i = true) (n : Nat) : (List.replicate n i).all inByte = true := List.all_eq_true.mpr fun x hx => by
  rw [(List.mem_replicate.mp hx).2]
  exact h
theorem fold_ok (f : UInt8 → Array Nat) (hf : ∀ c, ∀ n ∈ f c, n < 0x110000) : ∀ (l : List UInt8) (acc : Array Nat), (∀ n ∈ acc, n < 0x110000) → ∀ n ∈ l.foldl (fun acc c => acc ++ f c) acc, n < 0x110000
  | [], _, h => h
  | c :: l, acc, h => fold_ok f hf l (acc ++ f c) fun n hn => by
    rcases Array.mem_append.mp hn with h1 | h1
    · exact h n h1
    · exact hf c n h1
theorem shown_ok (q c : Nat) (hc : c < 256) : ∀ n ∈ (if c == q || c == 92 then #[92, c] else if c == 9 then #[92, 116] else if c == 10 then #[92, 110] else if c == 13 then #[92, 114]
    else if c < 32 || c ≥ 127 then #[92, 120, (if c / 16 < 10 then 48 + c / 16 else 87 + c / 16), (if c % 16 < 10 then 48 + c % 16 else 87 + c % 16)] else #[c] : Array Nat), n < 0x110000 := by
  intro n hn
  have h1 : (if c / 16 < 10 then 48 + c / 16 else 87 + c / 16) < 0x110000 := by split <;> omega
  have h2 : (if c % 16 < 10 then 48 + c % 16 else 87 + c % 16) < 0x110000 := by split <;> omega
  generalize (if c / 16 < 10 then 48 + c / 16 else 87 + c / 16) = x at *
  generalize (if c % 16 < 10 then 48 + c % 16 else 87 + c % 16) = y at *
  by_cases c1 : (c == q || c == 92) = true
  · rw [if_pos c1] at hn
    simp at hn
    omega
  rw [if_neg c1] at hn
  by_cases c2 : (c == 9) = true
  · rw [if_pos c2] at hn
    simp at hn
    omega
  rw [if_neg c2] at hn
  by_cases c3 : (c == 10) = true
  · rw [if_pos c3] at hn
    simp at hn
    omega
  rw [if_neg c3] at hn
  by_cases c4 : (c == 13) = true
  · rw [if_pos c4] at hn
    simp at hn
    omega
  rw [if_neg c4] at hn
  by_cases c5 : (c < 32 || c ≥ 127) = true
  · rw [if_pos c5] at hn
    simp at hn
    omega
  rw [if_neg c5] at hn
  simp at hn
  omega
theorem lit_ok (b : Array UInt8) : PyData.strOk (Builtin.Bytes.literal b) = true := by
  unfold PyData.strOk Builtin.Bytes.literal
  show (Array.push (b.foldl _ _) _).all _ = true
  rw [Array.all_eq_true', ← Array.foldl_toList]
  intro n hn
  refine decide_eq_true ?_
  have hq : (if b.contains 39 && !b.contains 34 then 34 else 39 : Nat) < 0x110000 := by split <;> omega
  rcases Array.mem_push.mp hn with h1 | h1
  · exact fold_ok (fun c => (if c.toNat == (if b.contains 39 && !b.contains 34 then 34 else 39) || c.toNat == 92 then #[92, c.toNat] else if c.toNat == 9 then #[92, 116] else if c.toNat == 10 then #[92, 110] else if c.toNat == 13 then #[92, 114]
      else if c.toNat < 32 || c.toNat ≥ 127 then #[92, 120, (if c.toNat / 16 < 10 then 48 + c.toNat / 16 else 87 + c.toNat / 16), (if c.toNat % 16 < 10 then 48 + c.toNat % 16 else 87 + c.toNat % 16)] else #[c.toNat] : Array Nat)) (fun c => shown_ok _ _ c.toNat_lt)
      b.toList #[98, (if b.contains 39 && !b.contains 34 then 34 else 39)] (fun m hm => by
        simp only [List.mem_toArray, List.mem_cons, List.not_mem_nil, or_false] at hm
        rcases hm with rfl | rfl
        · omega
        · exact hq) n h1
  · rw [h1]
    exact hq
theorem val_byt {G : Hp} {pr : Tr → Bool} {y : Array UInt8} {f : Bool} (hz : y.size ≤ 5000) (h : pr (.byt y) = !f) : Val G pr (.byt y) f := by
  refine ⟨.byt y, .byt _, ⟨decide_eq_true hz, rfl, Nat.le_of_ble_eq_true rfl, ?_⟩, lit_ok y, fun z e => (by cases e), h⟩
  refine Nat.le_trans (PySem.BtR.literal_len y) ?_
  rw [sizeLine_eq]
  omega
theorem size_rep (n : Nat) (i : Int) : (byteArr (List.replicate n i)).size = n := by simp [byteArr]
/-- a value drawn, beside a source at a -/
def Drawn (a : Addr) (H : Hp) (pr : Tr → Bool) (v : V) (G : Hp) : Prop := ∃ p x f, v = .ref p ∧ H p = none ∧ Pk (fresh H G) pr p x f ∧ Src G a ∧ But a H G
theorem pick_data {K : PySem.W.Frag} {a : Addr} {σ : L2.St} {H : Hp} {Q : VK} (h0 : σ[0]? = some (some (.ref a))) (hs : Src H a) (k : ∀ v G, Drawn a H Tr.dataB v G → Q v G) :
    tCall spPick [] E0 (tCons (tVar 0) (tCons (tLst (tCons (tCall spBlob [] E0 (tCons (tLst tNil) tNil)) (tCons (tCall spBlob [] E0 (tCons (tOp rRep (tLst (tCons (tC (V.int 1)) tNil)) (tC (V.int 4096))) tNil)) tNil)))
      (tCons (tLst (tCons (tCall spBlob [] E0 (tCons (tOp rRep (tLst (tCons (tC (V.int 0)) tNil)) (tC (V.int 4097))) tNil)) (tCons (tC V.non) (tCons (tC (V.str (Str.ofString "a"))) (tCons (tLst (tCons (tC (V.int 1)) tNil)) (tCons (tC (V.int 0)) (tCons (tTup (tCons (tC (V.int 1)) tNil)) tNil))))))) tNil))) σ H Q := by
  walk_at "rd"
  refine r_var h0 ?_
  walk_at "rd"
  rename_i l1 hl1
  refine sp_blob (ns := []) upd_same (by decide) (by decide) (fun H3 e3 => ?_)
  walk_at "rd"
  rename_i l2 hl2 l3 hl3
  refine sp_blob (ns := List.replicate (Int.toNat 4096) 1) (by rw [flat_rep]; exact upd_same) (by rw [List.length_replicate]; exact Nat.le_of_ble_eq_true rfl) (rep_byte rfl _) (fun H4 e4 => ?_)
  walk_at "rd"
  rename_i g2 hg2 l4 hl4 l5 hl5
  refine sp_blob (ns := List.replicate (Int.toNat 4097) 0) (by rw [flat_rep]; exact upd_same) (by rw [List.length_replicate]; exact Nat.le_of_ble_eq_true rfl) (rep_byte rfl _) (fun H5 e5 => ?_)
  walk_at "rd"
  rename_i l6 hl6 t7 ht7 w2 hw2
  have m3 : Same H H3 := fun b o e => e3 b o (upd_old hl1 e)
  have m4 : Same H3 H4 := fun b o e => e4 b o (upd_old hl3 (upd_old hl2 e))
  have m5 : Same H4 H5 := fun b o e => e5 b o (upd_old hl5 (upd_old hl4 (upd_old hg2 e)))
  have m6 : Same H5 (upd (upd (upd H5 l6 (.lst [.int 1])) t7 (.tup [.int 1])) w2 (.lst [V.byt (byteArr (List.replicate (Int.toNat 4097) 0)), V.non, V.str (Str.ofString "a"), V.ref l6, V.int 0, V.ref t7])) := fun b o e => upd_old hw2 (upd_old ht7 (upd_old hl6 e))
  have mm := (m3.trans m4).trans (m5.trans m6)
  have at_g : H5 g2 = some (.lst [V.byt (byteArr []), V.byt (byteArr (List.replicate (Int.toNat 4096) 1))]) := e5 _ _ (upd_old hl5 (upd_old hl4 upd_same))
  have l6H : H l6 = none := none_same ((m3.trans m4).trans m5) hl6
  have t7H : H t7 = none := none_same ((m3.trans m4).trans m5) (none_upd ht7)
  refine sp_pick (hs.same mm) (m6 _ _ at_g) upd_same ⟨Nat.le_of_ble_eq_true rfl, Nat.le_of_ble_eq_true rfl⟩ ⟨Nat.le_of_ble_eq_true rfl, Nat.le_of_ble_eq_true rfl⟩ (hs.ne (none_same (m3.trans m4) hg2)) (hs.ne (none_same ((m3.trans m4).trans m5) (none_upd (none_upd hw2)))) (fun p v f G hp pk in1 in2 sG bG => ?_)
  have pH : H p = none := none_same mm hp
  refine k _ _ ⟨p, v, f, rfl, pH, ⟨fresh_new pH pk, ?_⟩, sG, (Same.but mm).trans bG⟩
  have L6 : fresh H G l6 = some (.lst [.int 1]) := fresh_new l6H (bG _ _ (hs.ne l6H) (upd_old hw2 (upd_old ht7 upd_same)))
  have T7 : fresh H G t7 = some (.tup [.int 1]) := fresh_new t7H (bG _ _ (hs.ne t7H) (upd_old hw2 upd_same))
  cases f with
  | false =>
    have z := in1 rfl
    simp only [List.mem_cons, List.not_mem_nil, or_false] at z
    rcases z with rfl | rfl
    · exact val_mk (.byt (byteArr [])) (.byt _) (by decide +kernel)
    · exact val_byt (by rw [size_rep]; exact Nat.le_of_ble_eq_true rfl) (by simp only [Tr.dataB, size_rep]; rfl)
  | true =>
    have z := in2 rfl
    simp only [List.mem_cons, List.not_mem_nil, or_false] at z
    rcases z with rfl | rfl | rfl | rfl | rfl | rfl
    · exact val_byt (by rw [size_rep]; exact Nat.le_of_ble_eq_true rfl) (by simp only [Tr.dataB, size_rep]; rfl)
    · exact val_mk .non .non (by decide +kernel)
    · exact val_mk (.str "a") (.str _) (by decide +kernel)
    · exact val_mk (.lst [.int 1]) (.lst L6 (.cons (.int _) .nil)) (by decide +kernel)
    · exact val_mk (.int 0) (.int _) (by decide +kernel)
    · exact val_mk (.tup [.int 1]) (.tup T7 (.cons (.int _) .nil)) (by decide +kernel)
/-- the wrong sizes -/
def OddSz (G : Hp) (x : V) : Prop := x = .int (-1) ∨ x = .int 4097 ∨ x = .bl true ∨ x = .non ∨ x = .str (Str.ofString "9") ∨ ∃ l, x = .ref l ∧ G l = some (.lst [.int 9])
theorem pick_size {K : PySem.W.Frag} {a : Addr} {σ : L2.St} {H : Hp} {Q : VK} (h0 : σ[0]? = some (some (.ref a))) (hs : Src H a) (k : ∀ v G, (∃ p x f, v = .ref p ∧ H p = none ∧ Pk (fresh H G) (Tr.within 0 4096) p x f ∧ (f = false → x = .int 9 ∨ x = .int 4096) ∧ (f = true → OddSz (fresh H G) x) ∧ Src G a ∧ But a H G) → Q v G) :
    tCall spPick [] E0 (tCons (tVar 0) (tCons (tLst (tCons (tC (V.int 9)) (tCons (tC (V.int 4096)) tNil)))
      (tCons (tLst (tCons (tUn (rU fun i => V.int (-i)) (tC (V.int 1))) (tCons (tC (V.int 4097)) (tCons (tC (V.bl true)) (tCons (tC V.non) (tCons (tC (V.str (Str.ofString "9"))) (tCons (tLst (tCons (tC (V.int 9)) tNil)) tNil))))))) tNil))) σ H Q := by
  walk_at "rd"
  refine r_var h0 ?_
  walk_at "rd"
  rename_i g2 hg2 l6 hl6 w2 hw2
  have mm : Same H (upd (upd (upd H g2 (.lst [V.int 9, V.int 4096])) l6 (.lst [.int 9])) w2 (.lst [V.int (-1), V.int 4097, V.bl true, V.non, V.str (Str.ofString "9"), V.ref l6])) := fun b o e => upd_old hw2 (upd_old hl6 (upd_old hg2 e))
  have l6H : H l6 = none := none_upd hl6
  refine sp_pick (hs.same mm) (upd_old hw2 (upd_old hl6 upd_same)) upd_same ⟨Nat.le_of_ble_eq_true rfl, Nat.le_of_ble_eq_true rfl⟩ ⟨Nat.le_of_ble_eq_true rfl, Nat.le_of_ble_eq_true rfl⟩ (hs.ne hg2) (hs.ne (none_upd (none_upd hw2))) (fun p v f G hp pk in1 in2 sG bG => ?_)
  have pH : H p = none := none_same mm hp
  have L6 : fresh H G l6 = some (.lst [.int 9]) := fresh_new l6H (bG _ _ (hs.ne l6H) (upd_old hw2 upd_same))
  refine k _ _ ⟨p, v, f, rfl, pH, ⟨fresh_new pH pk, ?_⟩, fun e => by simpa only [List.mem_cons, List.not_mem_nil, or_false] using in1 e, fun e => ?_, sG, (Same.but mm).trans bG⟩
  rotate_left
  · have z := in2 e
    simp only [List.mem_cons, List.not_mem_nil, or_false] at z
    rcases z with rfl | rfl | rfl | rfl | rfl | rfl
    · exact .inl rfl
    · exact .inr (.inl rfl)
    · exact .inr (.inr (.inl rfl))
    · exact .inr (.inr (.inr (.inl rfl)))
    · exact .inr (.inr (.inr (.inr (.inl rfl))))
    · exact .inr (.inr (.inr (.inr (.inr ⟨l6, rfl, L6⟩))))
  cases f with
  | false =>
    have z := in1 rfl
    simp only [List.mem_cons, List.not_mem_nil, or_false] at z
    rcases z with rfl | rfl
    · exact val_mk (.int 9) (.int _) (by decide +kernel)
    · exact val_mk (.int 4096) (.int _) (by decide +kernel)
  | true =>
    have z := in2 rfl
    simp only [List.mem_cons, List.not_mem_nil, or_false] at z
    rcases z with rfl | rfl | rfl | rfl | rfl | rfl
    · exact val_mk (.int (-1)) (.int _) (by decide +kernel)
    · exact val_mk (.int 4097) (.int _) (by decide +kernel)
    · exact val_mk (.bl true) (.bl _) (by decide +kernel)
    · exact val_mk .non .non (by decide +kernel)
    · exact val_mk (.str "9") (.str _) (by decide +kernel)
    · exact val_mk (.lst [.int 9]) (.lst L6 (.cons (.int _) .nil)) (by decide +kernel)
end Th
/-! == of a tuple of pieces with one pair (number, bytes): an early item decides -/
namespace PySem.SeqAt
open AutoSeq1 (wpAny_loadPart')
open MeetsSeq MeetsSeq2 MeetsSeq3 SeqRoads2
theorem tuple_eq_first (l b : Addr) (items items2 : Array Value) (n n2 : Nat) (dd dd2 : Option Addr) (sl sl2 : Array (Option Value)) (h1 : 0 < items.size) (h2 : 0 < items2.size) :
    Meets (Builtin.«tuple.__eq__» ⟨[.ref l, .ref b], []⟩)
      (fun A R s => s.heap.get? l = some { cls := .type "tuple", dict := dd, data := .seq items n, slots := sl } ∧ s.heap.get? b = some { cls := .type "tuple", dict := dd2, data := .seq items2 n2, slots := sl2 } ∧
        EqAt A.in1 s items[0] items2[0] false ∧ R (.ok (.ret (.bool false))) s) :=
  .of_wp fun prog w A R s h => by
    obtain ⟨hp, g, d, tk, os⟩ := s; obtain ⟨hl, hb, he, h⟩ := h
    have f2 := AutoSeq1.sub_tuple_tuple
    wp_walk using wpAny_loadPart' hl, wpAny_loadPart' hb, wpAny_forIn_list _ (fun rest b s' => b.1 = none ∧ s' = ⟨hp, g, d, tk, os⟩ ∧ rest = items.toList.zip items2.toList ∧ R (.ok (.ret (.bool false))) ⟨hp, g, d, tk, os⟩) _
    case turn =>
      rintro ⟨y, x⟩ rest b s' ⟨hb', rfl, hz, hR⟩
      have hlt : 0 < (items.toList.zip items2.toList).length := by simp; omega
      rw [← List.drop_zero (l := items.toList.zip items2.toList), List.drop_eq_getElem_cons hlt] at hz
      injection hz with hyx hrest
      have hy : y = items[0] := by have := congrArg Prod.fst hyx; simpa using this
      have hx : x = items2[0] := by have := congrArg Prod.snd hyx; simpa using this
      subst hy hx
      refine wpAny_bind (he prog w _ _ ?_)
      wp_walk
      exact ⟨_, rfl, hR⟩
    case fin =>
      rintro ⟨b1, b2⟩ s' ⟨hb', rfl, hz, hR⟩
      have hlt : 0 < (items.toList.zip items2.toList).length := by simp; omega
      rw [← hz] at hlt
      exact absurd hlt (Nat.lt_irrefl 0)
    case h =>
      exact ⟨rfl, rfl, rfl, h⟩
theorem RcAt.tuples_first {A : Around} {s : Shared} {l b : Addr} {items items2 : Array Value} (hl : s.heap.IsTuple l items) (hb : s.heap.IsTuple b items2) (hu : A.units < cLine) (h1 : 0 < items.size) (h2 : 0 < items2.size)
    (he : EqAt A.in1 s items[0] items2[0] false) : RcAt A s (.ref l) (.ref b) false := fun prog w E Q h => by
  obtain ⟨⟨cls, dd, data, sl⟩, ho, hc, n, hd⟩ := id hl
  obtain ⟨⟨cls2, dd2, data2, sl2⟩, ho2, hc2, n2, hd2⟩ := id hb
  simp only at hc hd hc2 hd2
  subst hc hd hc2 hd2
  exact richCompare_meets_room (op := .Eq) ⟨_, ho, rfl⟩ ⟨_, ho2, rfl⟩ F.slot_tuple_eq F.entry_tuple_eq (F.args_tuple_eq_2 _ _) (tuple_eq_first l b items items2 n n2 dd dd2 sl sl2 h1 h2)
    ⟨ho, ho2, he, show Value.bool false ≠ Value.notImplemented ∧ Q (.bool false) s from ⟨(fun x => nomatch x), h⟩⟩ hu
end PySem.SeqAt
namespace Th
open PySem PySem.Spec PyProof.Rows L2
theorem eqAt_bytes {A : Around} {s : Shared} (x y : Array UInt8) (t u : Tok) : SeqAt.EqAt A s (.bytes x t) (.bytes y u) (decide (x = y)) := fun prog w E Q h => PySem.W.eqBool_bytes (by
  rw [show decide (x.toList = y.toList) = decide (x = y) by rw [Bool.eq_iff_iff]; simp]
  exact h)
theorem DnA.lenX {H : Hp} : ∀ {xs : List V} {ts : List Tr}, DnA H xs ts → xs.length = ts.length
  | _, _, .nil => rfl
  | _, _, .cons _ r => congrArg Nat.succ (DnA.lenX r)
/-- what an item tells of being the pair (k, b); none: not looked into -/
def item8 (k : Int) (b : Array UInt8) : Tr → Option Bool
  | .non => some false
  | .lst _ => some false
  | .tup (.int i :: .byt y :: []) => some (i == k && decide (y = b))
  | .tup (.int i :: _) => if i == k then none else some false
  | .tup (.bl c :: _) => if (if c then 1 else 0) == k then none else some false
  | _ => none
def tup8 (k : Int) (b : Array UInt8) : List Tr → Option Bool
  | [] => some false
  | [t] => item8 k b t
  | t :: _ :: _ => match item8 k b t with
    | some _ => some false
    | none => none
section
variable {X : Cx} {pins : List (Addr × Obj)} {σ : L2.St} {H : Hp} {s : Shared} {A : Around}
theorem eqAt_pairB (I : Inv X pins σ H s) (hu : A.units < cLine) {q r : Addr} {i j : Int} {x y : Array UInt8} (h1 : H q = some (.tup [.int i, .byt x])) (h2 : H r = some (.tup [.int j, .byt y])) : SeqAt.EqAt A s (.ref q) (.ref r) (i == j && decide (x = y)) := by
  by_cases hqr : q = r
  · subst hqr
    rw [h1] at h2
    injection h2 with h2
    injection h2 with h2
    injection h2 with e1 h2
    injection h2 with e2 _
    injection e1 with e1
    injection e2 with e2
    subst e1 e2
    rw [show (i == i && decide (x = x)) = true by simp]
    exact SeqAt.EqAt.same _
  · obtain ⟨its, r1, p1, _⟩ := I.tuple (SqT.of h1)
    obtain ⟨its2, r2, p2, _⟩ := I.tuple (SqT.of h2)
    obtain ⟨u1, u2, rfl, v1, v2⟩ := vals2 r1
    obtain ⟨w1, w2, rfl, z1, z2⟩ := vals2 r2
    obtain ⟨t1, rfl⟩ := (show ∃ t, u1 = Value.int i t from v1)
    obtain ⟨t2, rfl⟩ := (show ∃ t, u2 = Value.bytes x t from v2)
    obtain ⟨t3, rfl⟩ := (show ∃ t, w1 = Value.int j t from z1)
    obtain ⟨t4, rfl⟩ := (show ∃ t, w2 = Value.bytes y t from z2)
    have h := SeqAt.RcAt.tuples (A := A) (e := fun k => if k = 0 then (i == j) else decide (x = y)) p1 p2 hu (fun k g1 g2 => by
      match k, g1, g2 with
      | 0, _, _ => exact SeqAt.EqAt.int_int i t1 j t3
      | 1, _, _ => exact eqAt_bytes x y t2 t4)
    have e : ((List.range (min #[Value.int i t1, Value.bytes x t2].size #[Value.int j t3, Value.bytes y t4].size)).all (fun k => if k = 0 then (i == j) else decide (x = y)) && #[Value.int i t1, Value.bytes x t2].size == #[Value.int j t3, Value.bytes y t4].size) = (i == j && decide (x = y)) := by
      show ((List.range 2).all _ && true) = _
      rw [Bool.eq_iff_iff]
      simp [List.range_succ]
    refine SeqAt.EqAt.of_refs hqr ?_
    rw [← e]
    exact h
theorem vals_head {x : V} {xs : List V} {its : List Value} (h : Vals (x :: xs) its) : ∃ u us, its = u :: us ∧ RelV x u := by
  cases h with
  | cons a b => exact ⟨_, _, rfl, a⟩
theorem item8_at (I : Inv X pins σ H s) (hu : A.units + 2 < cLine) {r : Addr} {k : Int} {b : Array UInt8} (h2 : H r = some (.tup [.int k, .byt b])) {x : V} {u : Value} {t : Tr} {res : Bool} (d : Dn H x t) (rv : RelV x u) (h : item8 k b t = some res) : SeqAt.EqAt A s u (.ref r) res := by
  obtain ⟨its2, r2, p2, _⟩ := I.tuple (SqT.of h2)
  obtain ⟨w1, w2, rfl, z1, z2⟩ := vals2 r2
  obtain ⟨t3, rfl⟩ := (show ∃ t, w1 = Value.int k t from z1)
  cases d with
  | non =>
    cases (show u = Value.none from rv)
    cases h
    exact SeqAt.EqAt.none_tuple p2 (by omega)
  | lst h1 d1 =>
    cases (show u = Value.ref _ from rv)
    cases h
    obtain ⟨its, r1, p1, _⟩ := I.list (SqL.of h1)
    obtain ⟨o, n, e, hc, _, hd⟩ := p1
    exact SeqAt.EqAt.list_tuple ⟨o, e, hc, n, hd⟩ p2 (by omega)
  | @tup a xs ts h1 d1 =>
    cases (show u = Value.ref a from rv)
    obtain ⟨its, r1, p1, _⟩ := I.tuple (SqT.of h1)
    have first : ∀ {x0 : V} {xs' : List V}, xs = x0 :: xs' → x0 ≠ .int k → (∀ u0, RelV x0 u0 → SeqAt.EqAt A.in1 s u0 (.int k t3) false) → SeqAt.EqAt A s (.ref a) (.ref r) false := fun {x0 xs'} ex nk f => by
      subst ex
      obtain ⟨u0, us, rfl, ru⟩ := vals_head r1
      by_cases e : a = r
      · subst e
        rw [h1] at h2
        injection h2 with h2
        injection h2 with h2
        injection h2 with h2
        exact absurd h2 nk
      · exact SeqAt.EqAt.of_refs e (SeqAt.RcAt.tuples_first p1 p2 (by omega) (by simp) (by simp) (f u0 ru))
    cases d1 with
    | nil => cases h
    | cons d0 dd =>
      cases d0 with
      | int i =>
        by_cases ik : (i == k) = true
        · have ek : i = k := by simpa using ik
          subst ek
          cases dd with
          | nil => simp [item8] at h
          | cons d2 d3 =>
            cases d3 with
            | cons _ _ => cases d2 <;> simp [item8] at h
            | nil =>
              cases d2 with
              | byt y =>
                have h' : res = (i == i && decide (y = b)) := by
                  simp only [item8] at h
                  exact (Option.some.inj h).symm
                rw [h']
                exact eqAt_pairB I (by omega) h1 h2
              | _ => simp [item8] at h
        · have ik' : (i == k) = false := by simpa using ik
          have hr : res = false := by
            cases dd with
            | nil =>
              simp [item8, ik'] at h
              first | exact h | exact h.symm
            | cons d2 d3 =>
              cases d3 with
              | nil => cases d2 <;> simp [item8, ik'] at h <;> first | exact h | exact h.symm
              | cons _ _ => cases d2 <;> simp [item8, ik'] at h <;> first | exact h | exact h.symm
          subst hr
          refine first rfl (fun e => ik (by injection e with e; simp [e])) (fun u0 ru => ?_)
          obtain ⟨t1, rfl⟩ := (show ∃ t, u0 = Value.int i t from ru)
          rw [← ik']
          exact SeqAt.EqAt.int_int i t1 k t3
      | bl c =>
        by_cases ik : ((if c then (1 : Int) else 0) == k) = true
        · unfold item8 at h
          simp only [ik, if_true] at h
          cases h
        · have ik' : ((if c then (1 : Int) else 0) == k) = false := by simpa using ik
          have hr : res = false := by
            unfold item8 at h
            simp only [ik', Bool.false_eq_true, if_false] at h
            exact (Option.some.inj h).symm
          subst hr
          refine first rfl (fun e => nomatch e) (fun u0 ru => ?_)
          cases (show u0 = Value.bool c from ru)
          rw [← ik']
          exact SeqAt.EqAt.bool_int c k t3
      | _ => simp [item8] at h
  | _ => cases h
def rEq8 (k : Int) (b : Array UInt8) : R2 := fun x y H Q => ∃ p q r xs ts res, x = .ref p ∧ y = .ref q ∧ H p = some (.tup xs) ∧ DnA H xs ts ∧ H q = some (.tup [.ref r]) ∧ H r = some (.tup [.int k, .byt b]) ∧ tup8 k b ts = some res ∧ Q (.bl res) H
theorem op_eq8 (k : Int) (b : Array UInt8) (hu : X.A.units + 64 < cLine) : OpR X (compareOp .Eq) (rEq8 k b) := by
  intro pins s σ H x y v u Q I rx ry h
  obtain ⟨p, q, r, xs, ts, res, rfl, rfl, hp, dn, hq, hr, ht, qq⟩ := h
  cases (show v = Value.ref p from rx)
  cases (show u = Value.ref q from ry)
  obtain ⟨its, r1, p1, _⟩ := I.tuple (SqT.of hp)
  obtain ⟨its2, r2, p2, _⟩ := I.tuple (SqT.of hq)
  obtain ⟨w1, rfl, z1⟩ := vals1 r2
  cases (show w1 = Value.ref r from z1)
  have fin : ∀ z, z = res → SeqAt.RcAt X.A s (.ref p) (.ref q) z → wpAny (model X.prog X.w) X.A (compareOp .Eq (.ref p) (.ref q)) (EP X pins σ Q) X.xe s := fun z ez h => by
    subst ez
    exact h X.prog X.w _ _ ⟨.bl z, H, I, rfl, qq⟩
  cases dn with
  | nil =>
    cases r1
    cases ht
    refine fin _ ?_ (SeqAt.RcAt.tuples (e := fun _ => true) p1 p2 (by omega) (fun j h1 h2 => absurd h1 (Nat.not_lt_zero _)))
    rfl
  | @cons x0 t0 xs0 ts0 d0 dd =>
    obtain ⟨u0, us, rfl, ru⟩ := vals_head r1
    have lus : us.length = ts0.length := by
      have e1 := r1.length
      have e2 := dd.lenX
      simp only [List.length_cons] at e1
      omega
    have go : ∀ rs, item8 k b t0 = some rs → SeqAt.RcAt X.A s (.ref p) (.ref q) (rs && decide (us.length = 0)) := fun rs h8 => by
      have h := SeqAt.RcAt.tuples (A := X.A) (e := fun _ => rs) p1 p2 (by omega) (fun j h1 h2 => by
        have hj : j = 0 := by simp at h2; exact h2
        subst hj
        exact item8_at I (show X.A.in1.units + 2 < cLine from by show X.A.units + 1 + 2 < cLine; omega) hr d0 ru h8)
      have e : ((List.range (min (u0 :: us).toArray.size [Value.ref r].toArray.size)).all (fun _ => rs) && (u0 :: us).toArray.size == [Value.ref r].toArray.size) = (rs && decide (us.length = 0)) := by
        have hm : min (u0 :: us).toArray.size [Value.ref r].toArray.size = 1 := by
          rw [List.size_toArray, List.size_toArray, List.length_cons]
          exact Nat.min_eq_right (Nat.succ_le_succ (Nat.zero_le _))
        rw [hm]
        cases rs <;> cases us <;> simp [List.range_succ]
      rw [← e]
      exact h
    cases dd with
    | nil =>
      have l0 : us.length = 0 := lus
      refine fin _ ?_ (go res ht)
      rw [l0]
      simp
    | @cons x1 t1 xs1 ts1 d1 d2 =>
      have l0 : us.length ≠ 0 := by rw [lus]; simp
      cases h8 : item8 k b t0 with
      | none =>
        simp only [tup8, h8] at ht
        cases ht
      | some rs =>
        simp only [tup8, h8] at ht
        cases ht
        refine fin _ ?_ (go rs h8)
        simp [l0]
end
end Th
namespace Th
open PySem PySem.Spec PyProof.Rows L2
local macro_rules | `(tactic| walk_at "lk") => `(tactic| first
  | assumption
  | exact upd_same
  | (refine upd_old (by assumption) ?_; walk_at "lk")
  | (refine upd_diff (by assumption) ?_; walk_at "lk")
  | (refine upd_diff (Ne.symm (by assumption)) ?_; walk_at "lk"))
local macro_rules | `(tactic| walk_at "cnd") => `(tactic| first
  | omega
  | (refine ⟨by omega, by omega⟩)
  | (refine ⟨by omega, by omega, by omega⟩)
  | (refine .inl ⟨by omega, by omega⟩)
  | (refine .inr ⟨by omega, by omega⟩)
  | (exact (show CPow _ _ from ⟨by decide, by decide, by omega⟩))
  | decide +kernel
  | (unfold CMulW; decide +kernel)
  | (exact wide_div (b := 64) (by omega) (by omega) (by decide) (by decide)))
local macro_rules | `(tactic| walk_at "rd1") => `(tactic| first
  | (with_reducible refine r_seq ?_)
  | (with_reducible refine r_asg ?_)
  | (with_reducible refine r_ret ?_)
  | (with_reducible refine r_if ?_)
  | (with_reducible refine r_gname ?_)
  | ((with_reducible refine' r_var ?hv ?_); (case hv => exact rfl))
  | (with_reducible refine r_c ?_)
  | (with_reducible refine r_op ?_)
  | (with_reducible refine r_I0 ?_)
  | ((with_reducible refine r_I ?hc ?_); (case hc => walk_at "cnd"))
  | (with_reducible refine r_test ?_)
  | (with_reducible refine r_tB ?_)
  | (with_reducible refine r_bl ?_)
  | (with_reducible refine r_not ?_)
  | (with_reducible refine r_and ?_)
  | (with_reducible refine r_or ?_)
  | (with_reducible refine r_ifE ?_)
  | (with_reducible refine r_notV ?_)
  | (with_reducible refine r_andV ?_)
  | (with_reducible refine r_orV ?_)
  | (with_reducible refine r_chain ?_)
  | (with_reducible refine r_cb ?_)
  | (with_reducible refine r_call ?_)
  | (with_reducible refine r_callN ?_)
  | (with_reducible refine r_nil ?_)
  | (with_reducible refine r_cons ?_)
  | ((with_reducible refine r_lst ?_))
  | ((with_reducible refine r_tup ?_))
  | ((with_reducible refine r_new ?_ ?_); (exact Nat.le_of_ble_eq_true rfl); (intro p hp))
  | (with_reducible refine r_rInt1 ?_)
  | (with_reducible refine r_rIntB ?_)
  | (with_reducible refine r_rAbs ?_)
  | (with_reducible refine r_rMin2 ?_)
  | (with_reducible refine r_rMax2 ?_)
  | ((with_reducible refine r_rLenZ ?hz ?_); (case hz => first | assumption | exact Nat.le_of_ble_eq_true rfl | (refine Nat.le_trans ?_ (by decide : 100000 ≤ sizeLine); omega)))
  | ((with_reducible refine r_addZ ?hz ?_); (case hz => (refine Nat.le_trans ?_ (by decide : 100000 ≤ sizeLine); first | omega | (simp only [Str.length] at *; simp; omega))))
  | ((with_reducible refine r_mulZ ?hz ?h0 ?h1 ?_); (case hz => first | omega | exact Nat.le_of_ble_eq_true rfl); (case h0 => omega); (case h1 => omega))
  | ((with_reducible refine' r_rLenQ ?h1 ?_); (case h1 => first | (exact .inl (by assumption)) | (exact .inr (by assumption)) | (exact .inl (SqL.of (by walk_at "lk"))) | (exact .inr (SqT.of (by walk_at "lk")))))
  | ((with_reducible refine r_eq ?hs ?_); (case hs => exact rfl))
  | ((with_reducible refine r_ne ?hs ?_); (case hs => exact rfl))
  | (with_reducible refine r_inC ?_)
  | ((with_reducible refine' r_cat ?h1 ?h2 ?h3 ?_); (case h1 => walk_at "lk"); (case h2 => walk_at "lk"); (case h3 => exact Nat.le_of_ble_eq_true rfl); (intro p hp))
  | ((with_reducible refine' r_rep ?h1 ?h2 ?h3 ?h4 ?_); (case h1 => walk_at "lk"); (case h2 => omega); (case h3 => omega); (case h4 => exact Nat.le_of_ble_eq_true rfl); (intro p hp))
  | ((with_reducible refine' r_append ?h1 ?h2 ?_); (case h1 => walk_at "lk"); (case h2 => first | exact (show _ + 1 ≤ sizeLine from Nat.le_of_ble_eq_true rfl) | exact Nat.lt_of_le_of_lt (by omega : _ ≤ 100000) (by decide)))
  | (with_reducible refine r_bm ?_)
  | ((with_reducible refine' r_tyL ?h1 ?_); (case h1 => walk_at "lk"))
  | ((with_reducible refine' r_ixL ?h1 ?h2 ?_); (case h1 => first | assumption | exact SqL.of (by walk_at "lk")); (case h2 => exact rfl))
  | ((with_reducible refine' r_ixT ?h1 ?h2 ?_); (case h1 => first | assumption | exact SqT.of (by walk_at "lk")); (case h2 => exact rfl))
  | (with_reducible refine r_gsub ?_)
  | ((with_reducible refine' r_setL ?h1 ?h2 ?_); (case h1 => walk_at "lk"); (case h2 => exact rfl))
  | (with_reducible refine r_un ?_)
  | (with_reducible refine r_neg ?_)
  | (with_reducible refine r_iteT ?_)
  | (with_reducible refine r_iteNT ?_)
  | (with_reducible refine r_iteNF ?_)
  | (with_reducible refine r_iteF ?_)
  | (with_reducible refine r_next ?_)
  | (with_reducible refine r_drop ?_)
  | (with_reducible refine r_cont ?_)
  | (with_reducible refine r_brk ?_))
local macro_rules | `(tactic| walk_at "ty") => `(tactic| first
  | assumption
  | exact .base (.int _)
  | exact .base (.str _)
  | exact .base (.bl _)
  | exact .base .non
  | exact .byt _
  | exact .base (.lst (by walk_at "lk"))
  | exact .base (.tup (by walk_at "lk")))
local macro_rules | `(tactic| walk_at "rd2") => `(tactic| first
  | walk_at "rd1"
  | ((with_reducible refine' r_isi true ?ht ?hk ?_); (case ht => walk_at "ty"); (case hk => first | assumption | decide +kernel))
  | ((with_reducible refine' r_isi false ?ht ?hk ?_); (case ht => walk_at "ty"); (case hk => first | assumption | decide +kernel))
  | ((with_reducible refine' r_isiT2 true true ?hT ?ht ?hk ?hk2 ?_); (case hT => walk_at "lk"); (case ht => walk_at "ty"); (case hk => decide +kernel); (case hk2 => decide +kernel))
  | ((with_reducible refine' r_isiT2 true false ?hT ?ht ?hk ?hk2 ?_); (case hT => walk_at "lk"); (case ht => walk_at "ty"); (case hk => decide +kernel); (case hk2 => decide +kernel))
  | ((with_reducible refine' r_isiT2 false true ?hT ?ht ?hk ?hk2 ?_); (case hT => walk_at "lk"); (case ht => walk_at "ty"); (case hk => decide +kernel); (case hk2 => decide +kernel))
  | ((with_reducible refine' r_isiT2 false false ?hT ?ht ?hk ?hk2 ?_); (case hT => walk_at "lk"); (case ht => walk_at "ty"); (case hk => decide +kernel); (case hk2 => decide +kernel))
  | (with_reducible refine r_iteNT ?_)
  | ((show (if (!true) = true then _ else _)); refine r_iteNT ?_)
  | (with_reducible refine r_r1 ?_)
  | (with_reducible refine r_maks ?_)
  | (with_reducible refine r_sfld ?_)
  | ((with_reducible refine' r_sfldE ?h1 ?h2 ?h3 ?h4 ?_); (case h1 => walk_at "lk"); (case h2 => assumption); (case h3 => assumption); (case h4 => exact (show _ + 1 ≤ 1000 from Nat.le_of_ble_eq_true rfl)))
  | (with_reducible refine r_fld ?_)
  | (with_reducible refine r_join ?_)
  | (with_reducible refine r_jcons ?_)
  | (with_reducible refine r_jnil ?_)
  | ((with_reducible refine r_rLenY ?hz ?_); (case hz => first | assumption | (refine Nat.le_trans ?_ (by decide : 100000 ≤ sizeLine); omega)))
  | (with_reducible refine r_par ?_)
  | (with_reducible refine r_pair ?_)
  | (with_reducible refine r_par3 ?_)
  | (with_reducible refine r_trip ?_)
  | ((with_reducible refine' r_gtup ?h1 ?h2 ?_); (case h1 => first | assumption | exact SqT.of (by walk_at "lk")); (case h2 => exact rfl))
  | (with_reducible refine r_gcons ?_)
  | (with_reducible refine r_gnil ?_)
  | ((with_reducible refine' r_slL ?h1 ?_); (case h1 => first | assumption | exact SqL.of (by walk_at "lk")); (intro p hp))
  | (with_reducible refine r_iTup ?_)
  | ((with_reducible refine' r_tupE ?h1 ?_); (case h1 => first | assumption | exact SqT.of (by walk_at "lk")))
  | (with_reducible refine r_m1 ?_)
  | (with_reducible refine r_isZ ?_)
  | (with_reducible refine r_sl ?_)
  | (with_reducible refine r_noPart ?_)
  | (with_reducible refine r_part ?_)
  | (with_reducible refine r_partE ?_)
  | ((with_reducible refine r_slS ?hz ?_); (case hz => first | assumption | (refine Nat.le_trans ?_ (by decide : 100000 ≤ sizeLine); omega)))
  | ((with_reducible refine' r_inT ?h1 ?h2 ?h3 ?_); (case h1 => first | assumption | (exact SqT.of (by walk_at "lk"))); (case h2 => exact rfl); (case h3 => exact rfl))
  | ((with_reducible refine' r_inL ?h1 ?h2 ?h3 ?_); (case h1 => first | assumption | (exact SqL.of (by walk_at "lk"))); (case h2 => exact rfl); (case h3 => exact rfl))
  | (with_reducible refine r_lc ?_)
  | (with_reducible refine r_for ?_)
  | (with_reducible refine r_iStr ?_)
  | (with_reducible refine r_strE ?_)
  | (with_reducible refine r_iList ?_)
  | ((with_reducible refine' r_listE ?h1 ?_); (case h1 => first | assumption | exact SqL.of (by walk_at "lk")))
  | (with_reducible refine r_iRng1 ?_)
  | ((with_reducible refine' r_rngE ?h0 ?h1 ?_); (case h0 => first | omega | (split <;> omega)); (case h1 => first | omega | (split <;> omega))))
local macro_rules | `(tactic| walk_at "rd") => `(tactic| (repeat walk_at "rd2"))
local macro_rules | `(tactic| walk_at "st") => `(tactic| (repeat (first
  | (with_reducible refine r_gname ?_)
  | (with_reducible refine r_next ?_)
  | (with_reducible refine r_seq ?_)
  | (with_reducible refine r_asg ?_)
  | (with_reducible refine r_ret ?_)
  | (with_reducible refine r_for ?_)
  | (with_reducible refine r_iRng1 ?_)
  | (with_reducible refine r_iList ?_)
  | (with_reducible refine r_cons ?_)
  | (with_reducible refine r_par ?_)
  | (with_reducible refine r_par3 ?_))))
open LamX (Tabs TabB ExtN)
/-! ### pieces: terms that make a value of a known tree -/
theorem fresh_up {H0 H1 H2 : Hp} (e : Same H1 H2) : Same (fresh H0 H1) (fresh H0 H2) := fun b o h => by
  unfold fresh at *
  cases q : H0 b with
  | none => rw [q] at h; exact e _ _ h
  | some x => rw [q] at h; cases h
def MkT (H0 H1 : Hp) (σ : L2.St) (te : TE) (t : Tr) : Prop := ∀ (H : Hp) (Q : VK), Same H1 H → (∀ v H', Same H H' → Dn (fresh H0 H') v t → Q v H') → te σ H Q
def MkTA (H0 H1 : Hp) (σ : L2.St) (ta : TA) (ts : List Tr) : Prop := ∀ (H : Hp) (Q : List V → Hp → Prop), Same H1 H → (∀ xs H', Same H H' → DnA (fresh H0 H') xs ts → Q xs H') → ta σ H Q
theorem dna_mem {H : Hp} : ∀ {xs : List V} {ts : List Tr}, DnA H xs ts → ∀ {x : V}, x ∈ xs → ∃ t ∈ ts, Dn H x t
  | _, _, .nil, _, h => by cases h
  | _, _, .cons a r, x, h => by
    rcases List.mem_cons.mp h with rfl | h
    · exact ⟨_, List.mem_cons_self .., a⟩
    · obtain ⟨t, m, d⟩ := dna_mem r h
      exact ⟨t, List.mem_cons_of_mem _ m, d⟩
theorem dna_app {H : Hp} : ∀ {xs ys : List V} {ts us : List Tr}, DnA H xs ts → DnA H ys us → DnA H (xs ++ ys) (ts ++ us)
  | _, _, _, _, .nil, d => d
  | _, _, _, _, .cons a r, d => .cons a (dna_app r d)
section
variable {H0 H1 : Hp} {σ : L2.St}
theorem mkt_c {v : V} {t : Tr} (h : ∀ H, Dn H v t) : MkT H0 H1 σ (tC v) t := fun H Q _ k => k v H (Same.refl _) (h _)
theorem mkt_var {i : Nat} {v : V} {t : Tr} (hi : σ[i]? = some (some v)) (d : Dn (fresh H0 H1) v t) : MkT H0 H1 σ (tVar i) t := fun H Q e k => ⟨v, hi, k v H (Same.refl _) (Dn.same (fresh_up e) d)⟩
theorem mkta_nil : MkTA H0 H1 σ tNil [] := fun H Q _ k => k [] H (Same.refl _) .nil
theorem mkta_cons {te : TE} {ta : TA} {t : Tr} {ts : List Tr} (h : MkT H0 H1 σ te t) (r : MkTA H0 H1 σ ta ts) : MkTA H0 H1 σ (tCons te ta) (t :: ts) := fun H Q e k =>
  h H _ e fun v H2 e2 d => r H2 _ (e.trans e2) fun xs H3 e3 dd => k _ _ (e2.trans e3) (.cons (Dn.same (fresh_up e3) d) dd)
theorem mkt_tup {ta : TA} {ts : List Tr} (s01 : ∀ b, H1 b = none → H0 b = none) (h : MkTA H0 H1 σ ta ts) (hz : ts.length ≤ 1000) : MkT H0 H1 σ (tTup ta) (.tup ts) := fun H Q e k =>
  h H _ e fun xs H2 e2 d => ⟨by rw [d.len, sizeLine_eq]; omega, fun p hp => k _ _ (e2.trans (same_new hp)) (.tup ((fresh_at (s01 _ (none_same (e.trans e2) hp))).trans upd_same) (DnA.same (fresh_up (same_new hp)) d))⟩
theorem mkt_lst {ta : TA} {ts : List Tr} (s01 : ∀ b, H1 b = none → H0 b = none) (h : MkTA H0 H1 σ ta ts) (hz : ts.length ≤ 1000) : MkT H0 H1 σ (tLst ta) (.lst ts) := fun H Q e k =>
  h H _ e fun xs H2 e2 d => ⟨by rw [d.len, sizeLine_eq]; omega, fun p hp => k _ _ (e2.trans (same_new hp)) (.lst ((fresh_at (s01 _ (none_same (e.trans e2) hp))).trans upd_same) (DnA.same (fresh_up (same_new hp)) d))⟩
theorem mkt_blob {ta : TA} (ns : List Int) (h : ∀ (H : Hp) (Q : List V → Hp → Prop), Q (ns.map V.int) H → ta σ H Q) (hz : ns.length ≤ 1000) (hb : ns.all inByte = true) : MkT H0 H1 σ (tCall spBlob [] E0 (tCons (tLst ta) tNil)) (.byt (byteArr ns)) := fun H Q e k =>
  h H _ ⟨by rw [List.length_map, sizeLine_eq]; omega, fun p hp => sp_blob (E := E0) (ns := ns) upd_same (by omega) hb fun H3 e3 => k _ _ (fun b o eo => e3 b o (upd_old hp eo)) (.byt _)⟩
theorem mkt_neg {n : Int} : MkT H0 H1 σ (tUn (rU fun i => V.int (-i)) (tC (V.int n))) (.int (-n)) := fun H Q e k => ⟨n, rfl, k _ H (Same.refl _) (.int _)⟩
theorem mkt_ix1 {K : PySem.W.Frag} {i : Nat} {p : Addr} {x y : V} {t : Tr} (hi : σ[i]? = some (some (.ref p))) (hp : H1 p = some (.tup [x, y])) (d : Dn (fresh H0 H1) y t) : MkT H0 H1 σ (tOp (rIxT K) (tVar i) (tC (V.int 1))) t := fun H Q e k =>
  r_op (r_var hi (r_c (r_ixT (SqT.of (e _ _ hp)) rfl (k y H (Same.refl _) (Dn.same (fresh_up e) d)))))
end
/-! ### the pieces of the law -/
def bB (ns : List Int) : Tr := .byt (byteArr ns)
def OneT : Tr := .tup [.int 4, bB [1, 2]]
def badTs : List Tr := [.tup [.tup [.int 0, bB []]], .tup [.tup [.int 8, bB [1, 2]]], .tup [OneT, OneT], .tup [OneT, .tup [.int 6, bB [1]]], .tup [.tup [.int (-1), bB [1]]],
  .tup [.lst [.int 4, bB [1, 2]]],
  .tup [.tup [.int 4, .lst [.int 1]]], .tup [.tup [.bl true, bB [1]]], .tup [.non], .tup [.tup [.int 4, bB [1], .int 0]], .tup [OneT, .tup [.int 2, bB [1]]]]
def goodTs : List Tr := [.tup [], .tup [OneT], .tup [.tup [.int 0, bB [1]], OneT, .tup [.int 7, bB [5, 6]]]]
/-- what is to be known of a drawn tuple of pieces: f tells that it is wrong for size 9; for size 4096 it is, unless it is the pair (8, ..) alone -/
def pcB (f : Bool) : Tr → Bool
  | .tup ts => okT (.tup ts) && (decide (ts.length ≤ 3) && match tup8 8 (byteArr [1, 2]) ts with
    | some r => (piecesB 9 ts == !f) && (piecesB 4096 ts == (!f || r))
    | none => false)
  | _ => false
theorem bad_pc : badTs.all (pcB true) = true := by decide +kernel
theorem good_pc : goodTs.all (pcB false) = true := by decide +kernel
/-- a drawn tuple of pieces: the pair at p, the tuple at q -/
structure PcAt (G : Hp) (p : Addr) (f : Bool) (q : Addr) (xs : List V) (ts : List Tr) : Prop where
  at_ : G p = some (.tup [.ref q, .bl f])
  tup : G q = some (.tup xs)
  dn : DnA G xs ts
  ok : pcB f (.tup ts) = true
theorem PcAt.of {G : Hp} {p : Addr} {v : V} {f : Bool} {t : Tr} (h : G p = some (.tup [v, .bl f])) (d : Dn G v t) (ok : pcB f t = true) : ∃ q xs ts, v = .ref q ∧ PcAt G p f q xs ts := by
  cases d with
  | @tup a xs ts h1 d1 => exact ⟨a, xs, ts, rfl, h, h1, d1, ok⟩
  | _ => cases ok
theorem PcAt.lt {G G' : Hp} {p q : Addr} {f : Bool} {xs : List V} {ts : List Tr} (e : LT G G') (h : PcAt G p f q xs ts) : PcAt G' p f q xs ts := ⟨e.t _ _ h.at_, e.t _ _ h.tup, h.dn.lt e, h.ok⟩
abbrev tI (n : Int) : TE := tC (V.int n)
abbrev tB (ta : TA) : TE := tCall spBlob [] E0 (tCons (tLst ta) tNil)
abbrev ti1 (n : Int) : TA := tCons (tI n) tNil
abbrev ti2 (n m : Int) : TA := tCons (tI n) (tCons (tI m) tNil)
section
variable {H0 H : Hp} {σ : L2.St} {Q : VK}
theorem mb0 {H1 : Hp} : MkT H0 H1 σ (tB tNil) (bB []) := mkt_blob [] (fun _ _ q => q) (by decide) (by decide)
theorem mb1 {H1 : Hp} (n : Int) (h : inByte n = true) : MkT H0 H1 σ (tB (ti1 n)) (bB [n]) := mkt_blob [n] (fun _ _ q => q) (by simp) (by simp [h])
theorem mb2 {H1 : Hp} (n m : Int) (h : inByte n = true) (h2 : inByte m = true) : MkT H0 H1 σ (tB (ti2 n m)) (bB [n, m]) := mkt_blob [n, m] (fun _ _ q => q) (by simp) (by simp [h, h2])
theorem mi {H1 : Hp} (n : Int) : MkT H0 H1 σ (tI n) (.int n) := mkt_c fun _ => .int n
theorem mt1 {H1 : Hp} {te : TE} {t : Tr} (s : ∀ b, H1 b = none → H0 b = none) (h : MkT H0 H1 σ te t) : MkT H0 H1 σ (tTup (tCons te tNil)) (.tup [t]) := mkt_tup s (mkta_cons h mkta_nil) (by simp)
theorem mt2 {H1 : Hp} {te tf : TE} {t u : Tr} (s : ∀ b, H1 b = none → H0 b = none) (h : MkT H0 H1 σ te t) (h2 : MkT H0 H1 σ tf u) : MkT H0 H1 σ (tTup (tCons te (tCons tf tNil))) (.tup [t, u]) := mkt_tup s (mkta_cons h (mkta_cons h2 mkta_nil)) (by simp)
theorem mt3 {H1 : Hp} {te tf tg : TE} {t u v : Tr} (s : ∀ b, H1 b = none → H0 b = none) (h : MkT H0 H1 σ te t) (h2 : MkT H0 H1 σ tf u) (h3 : MkT H0 H1 σ tg v) : MkT H0 H1 σ (tTup (tCons te (tCons tf (tCons tg tNil)))) (.tup [t, u, v]) := mkt_tup s (mkta_cons h (mkta_cons h2 (mkta_cons h3 mkta_nil))) (by simp)
theorem mk_one (s : ∀ b, H b = none → H0 b = none) (k : ∀ p x y G, Same H G → G p = some (.tup [x, y]) → Dn (fresh H0 G) y (bB [1, 2]) → Dn (fresh H0 G) (.ref p) OneT → Q (.ref p) G) : tTup (tCons (tI 4) (tCons (tB (ti2 1 2)) tNil)) σ H Q := by
  refine mt2 s (mi 4) (mb2 1 2 (by decide) (by decide)) H Q (Same.refl _) fun v G e d => ?_
  have d0 := d
  unfold OneT at d0
  cases d0 with
  | tup h1 d1 =>
    cases d1 with
    | cons a r =>
      cases r with
      | cons b r2 =>
        cases r2
        exact k _ _ _ G e (fresh_sub _ _ h1) b d
def bad1 : List Tr := [.tup [.tup [.int 0, bB []]], .tup [.tup [.int 8, bB [1, 2]]], .tup [OneT, OneT], .tup [OneT, .tup [.int 6, bB [1]]], .tup [.tup [.int (-1), bB [1]]]]
def bad2 : List Tr := [.tup [.lst [.int 4, bB [1, 2]]]]
def bad3 : List Tr := [.tup [.tup [.int 4, .lst [.int 1]]], .tup [.tup [.bl true, bB [1]]], .tup [.non], .tup [.tup [.int 4, bB [1], .int 0]], .tup [OneT, .tup [.int 2, bB [1]]]]
theorem bads_eq : (bad1 ++ bad2) ++ bad3 = badTs := rfl
theorem mk_bad1 {p : Addr} (h1 : σ[1]? = some (some (.ref p))) (s : ∀ b, H b = none → H0 b = none) (d : Dn (fresh H0 H) (.ref p) OneT) (k : ∀ l xs G, Same H G → fresh H0 G l = some (.lst xs) → DnA (fresh H0 G) xs bad1 → Q (.ref l) G) :
    tLst (tCons (tTup (tCons (tTup (tCons (tI 0) (tCons (tB tNil) tNil))) tNil)) (tCons (tTup (tCons (tTup (tCons (tI 8) (tCons (tB (ti2 1 2)) tNil))) tNil)) (tCons (tTup (tCons (tVar 1) (tCons (tVar 1) tNil)))
      (tCons (tTup (tCons (tVar 1) (tCons (tTup (tCons (tI 6) (tCons (tB (ti1 1)) tNil))) tNil))) (tCons (tTup (tCons (tTup (tCons (tUn (rU fun i => V.int (-i)) (tI 1)) (tCons (tB (ti1 1)) tNil))) tNil)) tNil))))) σ H Q := by
  have o := mkt_var (H0 := H0) (H1 := H) (σ := σ) h1 d
  refine mkt_lst (ts := bad1) s (mkta_cons (mt1 s (mt2 s (mi 0) mb0)) (mkta_cons (mt1 s (mt2 s (mi 8) (mb2 1 2 (by decide) (by decide)))) (mkta_cons (mt2 s o o)
    (mkta_cons (mt2 s o (mt2 s (mi 6) (mb1 1 (by decide)))) (mkta_cons (mt1 s (mt2 s mkt_neg (mb1 1 (by decide)))) mkta_nil))))) (by decide) H Q (Same.refl _) fun v G e dd => ?_
  cases dd with
  | lst h1 d1 => exact k _ _ G e h1 d1
theorem mk_cat {te : TE} {l : Addr} {xs : List V} {ts us : List Tr} (h2 : σ[2]? = some (some (.ref l))) (s : ∀ b, H b = none → H0 b = none) (hl : fresh H0 H l = some (.lst xs)) (d : DnA (fresh H0 H) xs ts) (h : MkT H0 H σ te (.lst us)) (hz : ts.length + us.length ≤ 1000)
    (k : ∀ l xs G, Same H G → fresh H0 G l = some (.lst xs) → DnA (fresh H0 G) xs (ts ++ us) → Q (.ref l) G) : tOp rCat (tVar 2) te σ H Q := by
  refine r_op (r_var h2 (h H _ (Same.refl _) fun v G e dd => ?_))
  cases dd with
  | lst h1 d1 =>
    refine r_cat (e _ _ (fresh_sub _ _ hl)) (fresh_sub _ _ h1) (by rw [d.len, d1.len, sizeLine_eq]; omega) fun p hp => ?_
    exact k p _ _ (e.trans (same_new hp)) ((fresh_at (s _ (none_same e hp))).trans upd_same) (DnA.same (fresh_up (same_new hp)) (dna_app (DnA.same (fresh_up e) d) d1))
theorem mk_bad2 {K : PySem.W.Frag} {p l : Addr} {x y : V} {xs : List V} (h1 : σ[1]? = some (some (.ref p))) (h2 : σ[2]? = some (some (.ref l))) (s : ∀ b, H b = none → H0 b = none) (hp : H p = some (.tup [x, y])) (dy : Dn (fresh H0 H) y (bB [1, 2])) (hl : fresh H0 H l = some (.lst xs)) (d : DnA (fresh H0 H) xs bad1)
    (k : ∀ l xs G, Same H G → fresh H0 G l = some (.lst xs) → DnA (fresh H0 G) xs (bad1 ++ bad2) → Q (.ref l) G) :
    tOp rCat (tVar 2) (tLst (tCons (tTup (tCons (tLst (tCons (tI 4) (tCons (tOp (rIxT K) (tVar 1) (tC (V.int 1))) tNil))) tNil)) tNil)) σ H Q :=
  mk_cat h2 s hl d (mkt_lst s (mkta_cons (mt1 s (mkt_lst s (mkta_cons (mi 4) (mkta_cons (mkt_ix1 h1 hp dy) mkta_nil)) (by decide))) mkta_nil) (by decide)) (by decide) k
theorem mk_bad3 {p l : Addr} {xs : List V} (h1 : σ[1]? = some (some (.ref p))) (h2 : σ[2]? = some (some (.ref l))) (s : ∀ b, H b = none → H0 b = none) (d1 : Dn (fresh H0 H) (.ref p) OneT) (hl : fresh H0 H l = some (.lst xs)) (d : DnA (fresh H0 H) xs (bad1 ++ bad2))
    (k : ∀ l xs G, Same H G → fresh H0 G l = some (.lst xs) → DnA (fresh H0 G) xs badTs → Q (.ref l) G) :
    tOp rCat (tVar 2) (tLst (tCons (tTup (tCons (tTup (tCons (tI 4) (tCons (tLst (tCons (tI 1) tNil)) tNil))) tNil)) (tCons (tTup (tCons (tTup (tCons (tC (V.bl true)) (tCons (tB (ti1 1)) tNil))) tNil)) (tCons (tTup (tCons (tC V.non) tNil))
      (tCons (tTup (tCons (tTup (tCons (tI 4) (tCons (tB (ti1 1)) (tCons (tI 0) tNil)))) tNil)) (tCons (tTup (tCons (tVar 1) (tCons (tTup (tCons (tI 2) (tCons (tB (ti1 1)) tNil))) tNil))) tNil)))))) σ H Q := by
  have o := mkt_var (H0 := H0) (H1 := H) (σ := σ) h1 d1
  exact mk_cat (ts := bad1 ++ bad2) (us := bad3) h2 s hl d (mkt_lst s (mkta_cons (mt1 s (mt2 s (mi 4) (mkt_lst s (mkta_cons (mi 1) mkta_nil) (by decide)))) (mkta_cons (mt1 s (mt2 s (mkt_c fun _ => .bl true) (mb1 1 (by decide)))) (mkta_cons (mt1 s (mkt_c fun _ => .non))
    (mkta_cons (mt1 s (mt3 s (mi 4) (mb1 1 (by decide)) (mi 0))) (mkta_cons (mt2 s o (mt2 s (mi 2) (mb1 1 (by decide)))) mkta_nil))))) (by decide)) (by decide) k
theorem fresh_none {H0 H1 : Hp} {b : Addr} {o : HO} (h : fresh H0 H1 b = some o) : H0 b = none := by
  cases q : H0 b with
  | none => rfl
  | some x =>
    unfold fresh at h
    rw [q] at h
    cases h
theorem pick_pc {a p l : Addr} {xs : List V} (h0 : σ[0]? = some (some (.ref a))) (h1 : σ[1]? = some (some (.ref p))) (h2 : σ[2]? = some (some (.ref l))) (hs : Src H0 a) (sH : Src H a) (s : ∀ b, H b = none → H0 b = none) (d1 : Dn (fresh H0 H) (.ref p) OneT) (hl : fresh H0 H l = some (.lst xs)) (d : DnA (fresh H0 H) xs badTs)
    (k : ∀ g q f xs ts G, PcAt (fresh H0 G) g f q xs ts → H0 g = none → Src G a → But a H G → Q (.ref g) G) :
    tCall spPick [] E0 (tCons (tVar 0) (tCons (tLst (tCons (tTup tNil) (tCons (tTup (tCons (tVar 1) tNil)) (tCons (tTup (tCons (tTup (tCons (tI 0) (tCons (tB (ti1 1)) tNil))) (tCons (tVar 1) (tCons (tTup (tCons (tI 7) (tCons (tB (ti2 5 6)) tNil))) tNil)))) tNil)))) (tCons (tVar 2) tNil))) σ H Q := by
  have o := mkt_var (H0 := H0) (H1 := H) (σ := σ) h1 d1
  refine r_cons (r_var h0 (r_cons ?_))
  refine mkt_lst (H1 := H) (ts := goodTs) s (mkta_cons (mkt_tup s mkta_nil (by simp)) (mkta_cons (mt1 s o) (mkta_cons (mt3 s (mt2 s (mi 0) (mb1 1 (by decide))) o (mt2 s (mi 7) (mb2 5 6 (by decide) (by decide)))) mkta_nil))) (by decide) H _ (Same.refl _) (fun v G1 e1 dd => ?_)
  cases dd with
  | lst hg dg =>
    refine r_cons (r_var h2 (r_nil ?_))
    have lg : _ = 3 := dg.len
    have lb : _ = 11 := d.len
    refine sp_pick (sH.same e1) (fresh_sub _ _ hg) (e1 _ _ (fresh_sub _ _ hl)) ⟨by omega, by omega⟩ ⟨by omega, by omega⟩ (hs.ne (fresh_none hg)) (hs.ne (fresh_none hl)) (fun p v f G hp pk in1 in2 sG bG => ?_)
    have fb : Same (fresh H0 G1) (fresh H0 G) := fresh_but hs bG
    have hp0 : H0 p = none := s _ (none_same e1 hp)
    have fin : ∃ t, Dn (fresh H0 G1) v t ∧ pcB f t = true := by
      cases f with
      | false =>
        obtain ⟨t, ht, dt⟩ := dna_mem dg (in1 rfl)
        exact ⟨t, dt, List.all_eq_true.mp good_pc t ht⟩
      | true =>
        obtain ⟨t, ht, dt⟩ := dna_mem d (in2 rfl)
        exact ⟨t, Dn.same (fresh_up e1) dt, List.all_eq_true.mp bad_pc t ht⟩
    obtain ⟨t, dt, ok⟩ := fin
    obtain ⟨q, ys, ts, rfl, pc⟩ := PcAt.of (fresh_new hp0 pk) (Dn.same fb dt) ok
    exact k p q f ys ts G pc hp0 sG ((Same.but e1).trans bG)
end
end Th
/-! what takes a list or a tuple: the walk of a comprehension, bytes(..) -/
namespace Th
open PySem PySem.Spec PyProof.Rows L2
section
variable {X : Cx} {tg : Expr}
def iSeqA (K : PySem.W.Frag) (tl : TE) : TI := fun σ H R => tl σ H fun x H1 => ∃ a, x = .ref a ∧ (((∃ xs, SqL K H1 a xs) ∧ R (Itl K a) H1) ∨ ((∃ xs, SqT K H1 a xs) ∧ R (Itt K a) H1))
theorem pi_seqA {l : Expr} {tl : TE} (hl : PE X l tl) : PI X tg l (iSeqA X.K tl) := by
  refine ⟨fun pins s σ H R I h => ?_⟩
  refine thn (hl.run pins s σ H _ I h) fun v s1 ⟨x, H1, I1, r1, q1⟩ => ?_
  obtain ⟨a, e, q1⟩ := q1
  subst e
  cases r1
  rcases q1 with ⟨⟨xs, hq⟩, q⟩ | ⟨⟨xs, hq⟩, q⟩
  · obtain ⟨its, rv, p, hz⟩ := I1.list hq
    refine wpAny_pyIter_list p.isList ?_
    refine ⟨s1.heap.objs.size, [s1.heap.objs.size], _, _, H1, rfl, I1.kept (t' := s1.toks) fun b o e => Heap.get?_push_of_some _ e, turn_list a _, ⟨_, Heap.get?_push_size _ rfl, rfl, rfl⟩, fun b hb => ?_, q⟩
    have e : b = s1.heap.objs.size := by simpa using hb
    subst e
    exact I1.fpOk (Nat.le_refl _) (I1.hok.fresh (Nat.le_refl _))
  · obtain ⟨its, rv, p, hz⟩ := I1.tuple hq
    refine wpAny_pyIter_tuple (show s1.heap.IsTuple a its.toArray from p) ?_
    refine ⟨s1.heap.objs.size, [s1.heap.objs.size], _, _, H1, rfl, I1.kept (t' := s1.toks) fun b o e => Heap.get?_push_of_some _ e, turn_tuple a _, ⟨_, Heap.get?_push_size _ rfl, rfl, rfl⟩, fun b hb => ?_, q⟩
    have e : b = s1.heap.objs.size := by simpa using hb
    subst e
    exact I1.fpOk (Nat.le_refl _) (I1.hok.fresh (Nat.le_refl _))
/-- bytes(..) of a list or a tuple of bytes' numbers -/
def rBytA (K : PySem.W.Frag) : List V → Hp → VK → Prop := fun xs H Q => ∃ p ns, xs = [.ref p] ∧ (SqL K H p (ns.map V.int) ∨ SqT K H p (ns.map V.int)) ∧ B8 ns ∧ Q (.byt (byteArr ns)) H
theorem call_rBytA (K : PySem.W.Frag) (hc : X.calm = true) (h : X.K = K := by rfl) : CallR X (.type "bytes") (rBytA K) := by
  subst h
  intro pins s σ H xs us Q I r h
  obtain ⟨p, ns, rfl, hq, b, q⟩ := h
  rcases hq with hq | hq
  · exact call_bytes_list hc pins s σ H _ us Q I r ⟨p, ns, rfl, hq, b, q⟩
  · exact call_bytes_tup hc pins s σ H _ us Q I r ⟨p, ns, rfl, hq, b, q⟩
end
end Th
namespace Th
open PySem PySem.Spec PyProof.Rows L2
local macro_rules | `(tactic| walk_at "lk") => `(tactic| first
  | assumption
  | exact upd_same
  | (refine upd_old (by assumption) ?_; walk_at "lk")
  | (refine upd_diff (by assumption) ?_; walk_at "lk")
  | (refine upd_diff (Ne.symm (by assumption)) ?_; walk_at "lk"))
local macro_rules | `(tactic| walk_at "cnd") => `(tactic| first
  | omega
  | (refine ⟨by omega, by omega⟩)
  | (refine ⟨by omega, by omega, by omega⟩)
  | (refine .inl ⟨by omega, by omega⟩)
  | (refine .inr ⟨by omega, by omega⟩)
  | (exact (show CPow _ _ from ⟨by decide, by decide, by omega⟩))
  | decide +kernel
  | (unfold CMulW; decide +kernel)
  | (exact wide_div (b := 64) (by omega) (by omega) (by decide) (by decide)))
local macro_rules | `(tactic| walk_at "rd1") => `(tactic| first
  | (with_reducible refine r_seq ?_)
  | (with_reducible refine r_asg ?_)
  | (with_reducible refine r_ret ?_)
  | (with_reducible refine r_if ?_)
  | (with_reducible refine r_gname ?_)
  | ((with_reducible refine' r_var ?hv ?_); (case hv => exact rfl))
  | (with_reducible refine r_c ?_)
  | (with_reducible refine r_op ?_)
  | (with_reducible refine r_I0 ?_)
  | ((with_reducible refine r_I ?hc ?_); (case hc => walk_at "cnd"))
  | (with_reducible refine r_test ?_)
  | (with_reducible refine r_tB ?_)
  | (with_reducible refine r_bl ?_)
  | (with_reducible refine r_not ?_)
  | (with_reducible refine r_and ?_)
  | (with_reducible refine r_or ?_)
  | (with_reducible refine r_ifE ?_)
  | (with_reducible refine r_notV ?_)
  | (with_reducible refine r_andV ?_)
  | (with_reducible refine r_orV ?_)
  | (with_reducible refine r_chain ?_)
  | (with_reducible refine r_cb ?_)
  | (with_reducible refine r_call ?_)
  | (with_reducible refine r_callN ?_)
  | (with_reducible refine r_nil ?_)
  | (with_reducible refine r_cons ?_)
  | ((with_reducible refine r_lst ?_))
  | ((with_reducible refine r_tup ?_))
  | ((with_reducible refine r_new ?_ ?_); (exact Nat.le_of_ble_eq_true rfl); (intro p hp))
  | (with_reducible refine r_rInt1 ?_)
  | (with_reducible refine r_rIntB ?_)
  | (with_reducible refine r_rAbs ?_)
  | (with_reducible refine r_rMin2 ?_)
  | (with_reducible refine r_rMax2 ?_)
  | ((with_reducible refine r_rLenZ ?hz ?_); (case hz => first | assumption | exact Nat.le_of_ble_eq_true rfl | (refine Nat.le_trans ?_ (by decide : 100000 ≤ sizeLine); omega)))
  | ((with_reducible refine r_addZ ?hz ?_); (case hz => (refine Nat.le_trans ?_ (by decide : 100000 ≤ sizeLine); first | omega | (simp only [Str.length] at *; simp; omega))))
  | ((with_reducible refine r_mulZ ?hz ?h0 ?h1 ?_); (case hz => first | omega | exact Nat.le_of_ble_eq_true rfl); (case h0 => omega); (case h1 => omega))
  | ((with_reducible refine' r_rLenQ ?h1 ?_); (case h1 => first | (exact .inl (by assumption)) | (exact .inr (by assumption)) | (exact .inl (SqL.of (by walk_at "lk"))) | (exact .inr (SqT.of (by walk_at "lk")))))
  | ((with_reducible refine r_eq ?hs ?_); (case hs => exact rfl))
  | ((with_reducible refine r_ne ?hs ?_); (case hs => exact rfl))
  | (with_reducible refine r_inC ?_)
  | ((with_reducible refine' r_cat ?h1 ?h2 ?h3 ?_); (case h1 => walk_at "lk"); (case h2 => walk_at "lk"); (case h3 => exact Nat.le_of_ble_eq_true rfl); (intro p hp))
  | ((with_reducible refine' r_rep ?h1 ?h2 ?h3 ?h4 ?_); (case h1 => walk_at "lk"); (case h2 => omega); (case h3 => omega); (case h4 => exact Nat.le_of_ble_eq_true rfl); (intro p hp))
  | ((with_reducible refine' r_append ?h1 ?h2 ?_); (case h1 => walk_at "lk"); (case h2 => first | exact (show _ + 1 ≤ sizeLine from Nat.le_of_ble_eq_true rfl) | exact Nat.lt_of_le_of_lt (by omega : _ ≤ 100000) (by decide)))
  | (with_reducible refine r_bm ?_)
  | ((with_reducible refine' r_tyL ?h1 ?_); (case h1 => walk_at "lk"))
  | ((with_reducible refine' r_ixL ?h1 ?h2 ?_); (case h1 => first | assumption | exact SqL.of (by walk_at "lk")); (case h2 => exact rfl))
  | ((with_reducible refine' r_ixT ?h1 ?h2 ?_); (case h1 => first | assumption | exact SqT.of (by walk_at "lk")); (case h2 => exact rfl))
  | (with_reducible refine r_gsub ?_)
  | ((with_reducible refine' r_setL ?h1 ?h2 ?_); (case h1 => walk_at "lk"); (case h2 => exact rfl))
  | (with_reducible refine r_un ?_)
  | (with_reducible refine r_neg ?_)
  | (with_reducible refine r_iteT ?_)
  | (with_reducible refine r_iteNT ?_)
  | (with_reducible refine r_iteNF ?_)
  | (with_reducible refine r_iteF ?_)
  | (with_reducible refine r_next ?_)
  | (with_reducible refine r_drop ?_)
  | (with_reducible refine r_cont ?_)
  | (with_reducible refine r_brk ?_))
local macro_rules | `(tactic| walk_at "ty") => `(tactic| first
  | assumption
  | exact .base (.int _)
  | exact .base (.str _)
  | exact .base (.bl _)
  | exact .base .non
  | exact .byt _
  | exact .base (.lst (by walk_at "lk"))
  | exact .base (.tup (by walk_at "lk")))
local macro_rules | `(tactic| walk_at "rd2") => `(tactic| first
  | walk_at "rd1"
  | ((with_reducible refine' r_isi true ?ht ?hk ?_); (case ht => walk_at "ty"); (case hk => first | assumption | decide +kernel))
  | ((with_reducible refine' r_isi false ?ht ?hk ?_); (case ht => walk_at "ty"); (case hk => first | assumption | decide +kernel))
  | ((with_reducible refine' r_isiT2 true true ?hT ?ht ?hk ?hk2 ?_); (case hT => walk_at "lk"); (case ht => walk_at "ty"); (case hk => decide +kernel); (case hk2 => decide +kernel))
  | ((with_reducible refine' r_isiT2 true false ?hT ?ht ?hk ?hk2 ?_); (case hT => walk_at "lk"); (case ht => walk_at "ty"); (case hk => decide +kernel); (case hk2 => decide +kernel))
  | ((with_reducible refine' r_isiT2 false true ?hT ?ht ?hk ?hk2 ?_); (case hT => walk_at "lk"); (case ht => walk_at "ty"); (case hk => decide +kernel); (case hk2 => decide +kernel))
  | ((with_reducible refine' r_isiT2 false false ?hT ?ht ?hk ?hk2 ?_); (case hT => walk_at "lk"); (case ht => walk_at "ty"); (case hk => decide +kernel); (case hk2 => decide +kernel))
  | (with_reducible refine r_iteNT ?_)
  | ((show (if (!true) = true then _ else _)); refine r_iteNT ?_)
  | (with_reducible refine r_r1 ?_)
  | (with_reducible refine r_maks ?_)
  | (with_reducible refine r_sfld ?_)
  | ((with_reducible refine' r_sfldE ?h1 ?h2 ?h3 ?h4 ?_); (case h1 => walk_at "lk"); (case h2 => assumption); (case h3 => assumption); (case h4 => exact (show _ + 1 ≤ 1000 from Nat.le_of_ble_eq_true rfl)))
  | (with_reducible refine r_fld ?_)
  | (with_reducible refine r_join ?_)
  | (with_reducible refine r_jcons ?_)
  | (with_reducible refine r_jnil ?_)
  | ((with_reducible refine r_rLenY ?hz ?_); (case hz => first | assumption | (refine Nat.le_trans ?_ (by decide : 100000 ≤ sizeLine); omega)))
  | (with_reducible refine r_par ?_)
  | (with_reducible refine r_pair ?_)
  | (with_reducible refine r_par3 ?_)
  | (with_reducible refine r_trip ?_)
  | ((with_reducible refine' r_gtup ?h1 ?h2 ?_); (case h1 => first | assumption | exact SqT.of (by walk_at "lk")); (case h2 => exact rfl))
  | (with_reducible refine r_gcons ?_)
  | (with_reducible refine r_gnil ?_)
  | ((with_reducible refine' r_slL ?h1 ?_); (case h1 => first | assumption | exact SqL.of (by walk_at "lk")); (intro p hp))
  | (with_reducible refine r_iTup ?_)
  | ((with_reducible refine' r_tupE ?h1 ?_); (case h1 => first | assumption | exact SqT.of (by walk_at "lk")))
  | (with_reducible refine r_m1 ?_)
  | (with_reducible refine r_isZ ?_)
  | (with_reducible refine r_sl ?_)
  | (with_reducible refine r_noPart ?_)
  | (with_reducible refine r_part ?_)
  | (with_reducible refine r_partE ?_)
  | ((with_reducible refine r_slS ?hz ?_); (case hz => first | assumption | (refine Nat.le_trans ?_ (by decide : 100000 ≤ sizeLine); omega)))
  | ((with_reducible refine' r_inT ?h1 ?h2 ?h3 ?_); (case h1 => first | assumption | (exact SqT.of (by walk_at "lk"))); (case h2 => exact rfl); (case h3 => exact rfl))
  | ((with_reducible refine' r_inL ?h1 ?h2 ?h3 ?_); (case h1 => first | assumption | (exact SqL.of (by walk_at "lk"))); (case h2 => exact rfl); (case h3 => exact rfl))
  | (with_reducible refine r_lc ?_)
  | (with_reducible refine r_for ?_)
  | (with_reducible refine r_iStr ?_)
  | (with_reducible refine r_strE ?_)
  | (with_reducible refine r_iList ?_)
  | ((with_reducible refine' r_listE ?h1 ?_); (case h1 => first | assumption | exact SqL.of (by walk_at "lk")))
  | (with_reducible refine r_iRng1 ?_)
  | ((with_reducible refine' r_rngE ?h0 ?h1 ?_); (case h0 => first | omega | (split <;> omega)); (case h1 => first | omega | (split <;> omega))))
local macro_rules | `(tactic| walk_at "rd") => `(tactic| (repeat walk_at "rd2"))
local macro_rules | `(tactic| walk_at "st") => `(tactic| (repeat (first
  | (with_reducible refine r_gname ?_)
  | (with_reducible refine r_next ?_)
  | (with_reducible refine r_seq ?_)
  | (with_reducible refine r_asg ?_)
  | (with_reducible refine r_ret ?_)
  | (with_reducible refine r_for ?_)
  | (with_reducible refine r_iRng1 ?_)
  | (with_reducible refine r_iList ?_)
  | (with_reducible refine r_cons ?_)
  | (with_reducible refine r_par ?_)
  | (with_reducible refine r_par3 ?_))))
/-! ### blob of any value -/
/-- the numbers of a row -/
def numsOf : List Tr → List Int
  | [] => []
  | .int i :: ts => i :: numsOf ts
  | _ :: ts => numsOf ts
def Tr.rowB : Tr → Bool
  | .lst ts => ts.all (Tr.within 0 255)
  | .tup ts => ts.all (Tr.within 0 255)
  | _ => false
def Tr.row : Tr → List Int
  | .lst ts => numsOf ts
  | .tup ts => numsOf ts
  | _ => []
def withinV (lo hi : Int) : V → Bool
  | .int i => decide (lo ≤ i) && decide (i ≤ hi)
  | _ => false
theorem Dn.withinV {H : Hp} {x : V} {t : Tr} (d : Dn H x t) (lo hi : Int) : Th.withinV lo hi x = t.within lo hi := by cases d <;> rfl
theorem DnA.withinV {H : Hp} (lo hi : Int) : ∀ {xs : List V} {ts : List Tr}, DnA H xs ts → xs.all (Th.withinV lo hi) = ts.all (Tr.within lo hi)
  | _, _, .nil => rfl
  | _, _, .cons a r => by rw [List.all_cons, List.all_cons, a.withinV, DnA.withinV lo hi r]
theorem DnA.nums {H : Hp} : ∀ {xs : List V} {ts : List Tr}, DnA H xs ts → ts.all (Tr.within 0 255) = true → xs = (numsOf ts).map V.int ∧ ∀ n ∈ numsOf ts, 0 ≤ n ∧ n < 256
  | _, _, .nil, _ => ⟨rfl, fun _ h => nomatch h⟩
  | _, _, .cons (t := t) a r, h => by
    rw [List.all_cons, Bool.and_eq_true] at h
    obtain ⟨h1, h2⟩ := DnA.nums r h.2
    cases a with
    | int i =>
      have h0 := h.1
      simp only [Tr.within, Bool.and_eq_true, decide_eq_true_eq] at h0
      refine ⟨by rw [h1]; rfl, fun n hn => ?_⟩
      rcases List.mem_cons.mp hn with rfl | hn
      · omega
      · exact h2 n hn
    | _ => cases h.1
section
variable {P : Program} {w : World} {K : PySem.W.Frag} {mg : Str → Option Value} {base : Heap}
def spRowT : Sp := fun vs H Q _ => ∃ (x : V) (t : Tr), vs = [x] ∧ Dn H x t ∧ t.small = true ∧ ∀ H', Same H H' → Q (.bl t.rowB) H'
theorem ok_rowT {f : Addr} {fd : FuncData} {k : Nat} (F : Fun K "is_row_of_bytes" "is_row_of_bytes" s_is_row_of_bytes f fd) (c_within : CalT P w K mg base 2 "is_integer_within" spWithin)
    (m1 : mg "isinstance" = none) (m2 : mg "list" = none) (m3 : mg "tuple" = none) (m4 : mg "all" = none) : FnOk P w K mg base CX0 (k + 3) f fd ["thing"] spRowT := by
  refine F.ok sc_is_row_of_bytes (fun vs H Q E h => ?_) (fun cdv A outer s H vs Q E hr h => ?_)
  · obtain ⟨x, t, rfl, _⟩ := h
    rfl
  · obtain ⟨x, t, rfl, dn, hsm, q⟩ := h
    have hu := hu_of hr
    have nd := sc_is_row_of_bytes.nd
    have ty := dn.tyX (K := K)
    refine ⟨_, (pss_cons (ps_if (pt_not (pt_val (pe_callB (call_isiK2 K) (by rfl) (by assumption) (by decide +kernel) (pa_cons (pv 0) (pa_cons (pe_tup (pa_cons (pe_bltn (v := .ty "list") (by rfl) (by assumption) (by decide +kernel) rfl) (pa_cons (pe_bltn (v := .ty "tuple") (by rfl) (by assumption) (by decide +kernel) rfl) pa_nil))) pa_nil)))))
        (pss_one (ps_ret pe_bl))
        pss_nil)
      (pss_one (ps_ret (pe_callB (call_allK K) (by rfl) (by assumption) (by decide +kernel) (pa_cons (pe_lc (own := [("number", 1)]) (g := (gName 1)) (tt := tYes) rfl nd (pi_seqA (pv 0)) (blkOk_by (N := N_is_row_of_bytes) (sc := defScope s_is_row_of_bytes) (by decide +kernel)) (fun _ _ _ _ _ => (pg_name (i := 1) nd rfl (Or.inl rfl))) (fun _ _ _ _ _ => pts_nil) (fun _ _ _ _ _ => (pe_cc c_within hr (by omega) (by rfl) (pa_cons (pv 1) (pa_cons pe_int (pa_cons pe_int pa_nil)))))) pa_nil))))), ?_⟩
    cases dn with
    | lst h1 d1 =>
      rename_i a xs ts
      simp only [Tr.ty] at ty
      simp only [Tr.small, Bool.and_eq_true, decide_eq_true_eq] at hsm
      have hl := d1.len
      have hm : xs.map (fun v => v) = xs := List.map_id' _
      walk_at "rd"
      unfold iSeqA
      refine r_var rfl ⟨_, rfl, .inl ⟨⟨xs, SqL.of (by walk_at "lk")⟩, fun D hD => ?_⟩⟩
      refine lc_map (cs := xs) (enc := fun v => v) (f := fun v => V.bl (withinV 0 255 v)) (by rw [hm]; exact walk_list) hD (Nat.lt_of_le_of_lt (by omega : _ ≤ 100) (by decide)) (fun H' e => SqL.of (e _ _ (by walk_at "lk"))) (fun x => rfl) ?_ ?_
      · intro c hc H' e Q' k'
        obtain ⟨t1, _, dt⟩ := dna_mem d1 hc
        walk_at "rd"
        refine ⟨c, t1, 0, 255, rfl, Dn.same (fun b o x => e b o (by walk_at "lk")) dt, ?_⟩
        rw [← dt.withinV]
        exact k' _ (Same.refl _)
      · intro H' e hl2
        walk_at "rd"
        refine r_all (bs := xs.map (withinV 0 255)) (by rw [List.map_map]; exact SqL.of hl2) ?_
        have e2 : (xs.map (withinV 0 255)).all id = (Tr.lst ts).rowB := by rw [List.all_map]; exact d1.withinV 0 255
        rw [e2]
        exact q H' (fun b o x => e b o (by walk_at "lk"))
    | tup h1 d1 =>
      rename_i a xs ts
      simp only [Tr.ty] at ty
      simp only [Tr.small, Bool.and_eq_true, decide_eq_true_eq] at hsm
      have hl := d1.len
      have hm : xs.map (fun v => v) = xs := List.map_id' _
      walk_at "rd"
      unfold iSeqA
      refine r_var rfl ⟨_, rfl, .inr ⟨⟨xs, SqT.of (by walk_at "lk")⟩, fun D hD => ?_⟩⟩
      refine lc_map (cs := xs) (enc := fun v => v) (f := fun v => V.bl (withinV 0 255 v)) (by rw [hm]; exact walk_tup) hD (Nat.lt_of_le_of_lt (by omega : _ ≤ 100) (by decide)) (fun H' e => SqT.of (e _ _ (by walk_at "lk"))) (fun x => rfl) ?_ ?_
      · intro c hc H' e Q' k'
        obtain ⟨t1, _, dt⟩ := dna_mem d1 hc
        walk_at "rd"
        refine ⟨c, t1, 0, 255, rfl, Dn.same (fun b o x => e b o (by walk_at "lk")) dt, ?_⟩
        rw [← dt.withinV]
        exact k' _ (Same.refl _)
      · intro H' e hl2
        walk_at "rd"
        refine r_all (bs := xs.map (withinV 0 255)) (by rw [List.map_map]; exact SqL.of hl2) ?_
        have e2 : (xs.map (withinV 0 255)).all id = (Tr.tup ts).rowB := by rw [List.all_map]; exact d1.withinV 0 255
        rw [e2]
        exact q H' (fun b o x => e b o (by walk_at "lk"))
    | emp h1 =>
      simp only [Tr.ty] at ty
      walk_at "rd"
      rename_i a tp htp
      refine r_isiT2 (T := "dict") (n := "list") (m := "tuple") false false upd_same (.base (.dK (upd_old htp h1))) (by decide +kernel) (by decide +kernel) ?_
      walk_at "rd"
      exact q _ (same_new htp)
    | _ => simp only [Tr.ty] at ty; walk_at "rd"; exact q _ (same_new (by assumption))
/-- the row's address and its numbers -/
theorem row_at {H : Hp} {x : V} {t : Tr} (d : Dn H x t) (h : t.rowB = true) : ∃ p, x = .ref p ∧ (SqL K H p (t.row.map V.int) ∨ SqT K H p (t.row.map V.int)) ∧ B8 t.row := by
  cases d with
  | lst h1 d1 =>
    obtain ⟨e, b⟩ := d1.nums h
    exact ⟨_, rfl, .inl (SqL.of (by rw [h1, e]; rfl)), b⟩
  | tup h1 d1 =>
    obtain ⟨e, b⟩ := d1.nums h
    exact ⟨_, rfl, .inr (SqT.of (by rw [h1, e]; rfl)), b⟩
  | _ => cases h
def spBlobT : Sp := fun vs H Q _ => ∃ (x : V) (t : Tr), vs = [x] ∧ Dn H x t ∧ t.small = true ∧ t.rowB = true ∧ ∀ H', Same H H' → Q (.byt (byteArr t.row)) H'
theorem ok_blobT {f : Addr} {fd : FuncData} {k : Nat} (F : Fun K "blob" "blob" s_blob f fd) (c_row : CalT P w K mg base 3 "is_row_of_bytes" spRowT) (m1 : mg "bytes" = none) : FnOk P w K mg base CX0 (k + 4) f fd ["numbers"] spBlobT := by
  refine F.ok sc_blob (fun vs H Q E h => ?_) (fun cdv A outer s H vs Q E hr h => ?_)
  · obtain ⟨x, t, rfl, _⟩ := h
    rfl
  · obtain ⟨x, t, rfl, dn, hsm, hb, q⟩ := h
    have hu := hu_of hr
    have nd := sc_blob.nd
    refine ⟨_, (pss_cons (ps_if (pt_not (pt_val (pe_cc c_row hr (by omega) (by rfl) (pa_cons (pv 0) pa_nil))))
        (pss_one ps_never)
        pss_nil)
      (pss_one (ps_ret (pe_callTy (call_rBytA K rfl) (by rfl) (by assumption) (by decide +kernel) (pa_cons (pv 0) pa_nil))))), ?_⟩
    walk_at "rd"
    refine ⟨x, t, rfl, dn, hsm, fun H' e => ?_⟩
    rw [hb]
    obtain ⟨p, rfl, hq, b8⟩ := row_at (K := K) (Dn.same e dn) hb
    walk_at "rd"
    exact ⟨p, t.row, rfl, hq, b8, q H' e⟩
end
end Th
namespace Th
open PySem PySem.Spec PyProof.Rows L2
local macro_rules | `(tactic| walk_at "lk") => `(tactic| first
  | assumption
  | exact upd_same
  | (refine upd_old (by assumption) ?_; walk_at "lk")
  | (refine upd_diff (by assumption) ?_; walk_at "lk")
  | (refine upd_diff (Ne.symm (by assumption)) ?_; walk_at "lk"))
local macro_rules | `(tactic| walk_at "cnd") => `(tactic| first
  | omega
  | (refine ⟨by omega, by omega⟩)
  | (refine ⟨by omega, by omega, by omega⟩)
  | (refine .inl ⟨by omega, by omega⟩)
  | (refine .inr ⟨by omega, by omega⟩)
  | (exact (show CPow _ _ from ⟨by decide, by decide, by omega⟩))
  | decide +kernel
  | (unfold CMulW; decide +kernel)
  | (exact wide_div (b := 64) (by omega) (by omega) (by decide) (by decide)))
local macro_rules | `(tactic| walk_at "rd1") => `(tactic| first
  | (with_reducible refine r_seq ?_)
  | (with_reducible refine r_asg ?_)
  | (with_reducible refine r_ret ?_)
  | (with_reducible refine r_if ?_)
  | (with_reducible refine r_gname ?_)
  | ((with_reducible refine' r_var ?hv ?_); (case hv => exact rfl))
  | (with_reducible refine r_c ?_)
  | (with_reducible refine r_op ?_)
  | (with_reducible refine r_I0 ?_)
  | ((with_reducible refine r_I ?hc ?_); (case hc => walk_at "cnd"))
  | (with_reducible refine r_test ?_)
  | (with_reducible refine r_tB ?_)
  | (with_reducible refine r_bl ?_)
  | (with_reducible refine r_not ?_)
  | (with_reducible refine r_and ?_)
  | (with_reducible refine r_or ?_)
  | (with_reducible refine r_ifE ?_)
  | (with_reducible refine r_notV ?_)
  | (with_reducible refine r_andV ?_)
  | (with_reducible refine r_orV ?_)
  | (with_reducible refine r_chain ?_)
  | (with_reducible refine r_cb ?_)
  | (with_reducible refine r_call ?_)
  | (with_reducible refine r_callN ?_)
  | (with_reducible refine r_nil ?_)
  | (with_reducible refine r_cons ?_)
  | ((with_reducible refine r_lst ?_))
  | ((with_reducible refine r_tup ?_))
  | ((with_reducible refine r_new ?_ ?_); (exact Nat.le_of_ble_eq_true rfl); (intro p hp))
  | (with_reducible refine r_rInt1 ?_)
  | (with_reducible refine r_rIntB ?_)
  | (with_reducible refine r_rAbs ?_)
  | (with_reducible refine r_rMin2 ?_)
  | (with_reducible refine r_rMax2 ?_)
  | ((with_reducible refine r_rLenZ ?hz ?_); (case hz => first | assumption | exact Nat.le_of_ble_eq_true rfl | (refine Nat.le_trans ?_ (by decide : 100000 ≤ sizeLine); omega)))
  | ((with_reducible refine r_addZ ?hz ?_); (case hz => (refine Nat.le_trans ?_ (by decide : 100000 ≤ sizeLine); first | omega | (simp only [Str.length] at *; simp; omega))))
  | ((with_reducible refine r_mulZ ?hz ?h0 ?h1 ?_); (case hz => first | omega | exact Nat.le_of_ble_eq_true rfl); (case h0 => omega); (case h1 => omega))
  | ((with_reducible refine' r_rLenQ ?h1 ?_); (case h1 => first | (exact .inl (by assumption)) | (exact .inr (by assumption)) | (exact .inl (SqL.of (by walk_at "lk"))) | (exact .inr (SqT.of (by walk_at "lk")))))
  | ((with_reducible refine r_eq ?hs ?_); (case hs => exact rfl))
  | ((with_reducible refine r_ne ?hs ?_); (case hs => exact rfl))
  | (with_reducible refine r_inC ?_)
  | ((with_reducible refine' r_cat ?h1 ?h2 ?h3 ?_); (case h1 => walk_at "lk"); (case h2 => walk_at "lk"); (case h3 => exact Nat.le_of_ble_eq_true rfl); (intro p hp))
  | ((with_reducible refine' r_rep ?h1 ?h2 ?h3 ?h4 ?_); (case h1 => walk_at "lk"); (case h2 => omega); (case h3 => omega); (case h4 => exact Nat.le_of_ble_eq_true rfl); (intro p hp))
  | ((with_reducible refine' r_append ?h1 ?h2 ?_); (case h1 => walk_at "lk"); (case h2 => first | exact (show _ + 1 ≤ sizeLine from Nat.le_of_ble_eq_true rfl) | exact Nat.lt_of_le_of_lt (by omega : _ ≤ 100000) (by decide)))
  | (with_reducible refine r_bm ?_)
  | ((with_reducible refine' r_tyL ?h1 ?_); (case h1 => walk_at "lk"))
  | ((with_reducible refine' r_ixL ?h1 ?h2 ?_); (case h1 => first | assumption | exact SqL.of (by walk_at "lk")); (case h2 => exact rfl))
  | ((with_reducible refine' r_ixT ?h1 ?h2 ?_); (case h1 => first | assumption | exact SqT.of (by walk_at "lk")); (case h2 => exact rfl))
  | (with_reducible refine r_gsub ?_)
  | ((with_reducible refine' r_setL ?h1 ?h2 ?_); (case h1 => walk_at "lk"); (case h2 => exact rfl))
  | (with_reducible refine r_un ?_)
  | (with_reducible refine r_neg ?_)
  | (with_reducible refine r_iteT ?_)
  | (with_reducible refine r_iteNT ?_)
  | (with_reducible refine r_iteNF ?_)
  | (with_reducible refine r_iteF ?_)
  | (with_reducible refine r_next ?_)
  | (with_reducible refine r_drop ?_)
  | (with_reducible refine r_cont ?_)
  | (with_reducible refine r_brk ?_))
local macro_rules | `(tactic| walk_at "ty") => `(tactic| first
  | assumption
  | exact .base (.int _)
  | exact .base (.str _)
  | exact .base (.bl _)
  | exact .base .non
  | exact .byt _
  | exact .base (.lst (by walk_at "lk"))
  | exact .base (.tup (by walk_at "lk")))
local macro_rules | `(tactic| walk_at "rd2") => `(tactic| first
  | walk_at "rd1"
  | ((with_reducible refine' r_isi true ?ht ?hk ?_); (case ht => walk_at "ty"); (case hk => first | assumption | decide +kernel))
  | ((with_reducible refine' r_isi false ?ht ?hk ?_); (case ht => walk_at "ty"); (case hk => first | assumption | decide +kernel))
  | ((with_reducible refine' r_isiT2 true true ?hT ?ht ?hk ?hk2 ?_); (case hT => walk_at "lk"); (case ht => walk_at "ty"); (case hk => decide +kernel); (case hk2 => decide +kernel))
  | ((with_reducible refine' r_isiT2 true false ?hT ?ht ?hk ?hk2 ?_); (case hT => walk_at "lk"); (case ht => walk_at "ty"); (case hk => decide +kernel); (case hk2 => decide +kernel))
  | ((with_reducible refine' r_isiT2 false true ?hT ?ht ?hk ?hk2 ?_); (case hT => walk_at "lk"); (case ht => walk_at "ty"); (case hk => decide +kernel); (case hk2 => decide +kernel))
  | ((with_reducible refine' r_isiT2 false false ?hT ?ht ?hk ?hk2 ?_); (case hT => walk_at "lk"); (case ht => walk_at "ty"); (case hk => decide +kernel); (case hk2 => decide +kernel))
  | (with_reducible refine r_iteNT ?_)
  | ((show (if (!true) = true then _ else _)); refine r_iteNT ?_)
  | (with_reducible refine r_r1 ?_)
  | (with_reducible refine r_maks ?_)
  | (with_reducible refine r_sfld ?_)
  | ((with_reducible refine' r_sfldE ?h1 ?h2 ?h3 ?h4 ?_); (case h1 => walk_at "lk"); (case h2 => assumption); (case h3 => assumption); (case h4 => exact (show _ + 1 ≤ 1000 from Nat.le_of_ble_eq_true rfl)))
  | (with_reducible refine r_fld ?_)
  | (with_reducible refine r_join ?_)
  | (with_reducible refine r_jcons ?_)
  | (with_reducible refine r_jnil ?_)
  | ((with_reducible refine r_rLenY ?hz ?_); (case hz => first | assumption | (refine Nat.le_trans ?_ (by decide : 100000 ≤ sizeLine); omega)))
  | (with_reducible refine r_par ?_)
  | (with_reducible refine r_pair ?_)
  | (with_reducible refine r_par3 ?_)
  | (with_reducible refine r_trip ?_)
  | ((with_reducible refine' r_gtup ?h1 ?h2 ?_); (case h1 => first | assumption | exact SqT.of (by walk_at "lk")); (case h2 => exact rfl))
  | (with_reducible refine r_gcons ?_)
  | (with_reducible refine r_gnil ?_)
  | ((with_reducible refine' r_slL ?h1 ?_); (case h1 => first | assumption | exact SqL.of (by walk_at "lk")); (intro p hp))
  | (with_reducible refine r_iTup ?_)
  | ((with_reducible refine' r_tupE ?h1 ?_); (case h1 => first | assumption | exact SqT.of (by walk_at "lk")))
  | (with_reducible refine r_m1 ?_)
  | (with_reducible refine r_isZ ?_)
  | (with_reducible refine r_sl ?_)
  | (with_reducible refine r_noPart ?_)
  | (with_reducible refine r_part ?_)
  | (with_reducible refine r_partE ?_)
  | ((with_reducible refine r_slS ?hz ?_); (case hz => first | assumption | (refine Nat.le_trans ?_ (by decide : 100000 ≤ sizeLine); omega)))
  | ((with_reducible refine' r_inT ?h1 ?h2 ?h3 ?_); (case h1 => first | assumption | (exact SqT.of (by walk_at "lk"))); (case h2 => exact rfl); (case h3 => exact rfl))
  | ((with_reducible refine' r_inL ?h1 ?h2 ?h3 ?_); (case h1 => first | assumption | (exact SqL.of (by walk_at "lk"))); (case h2 => exact rfl); (case h3 => exact rfl))
  | (with_reducible refine r_lc ?_)
  | (with_reducible refine r_for ?_)
  | (with_reducible refine r_iStr ?_)
  | (with_reducible refine r_strE ?_)
  | (with_reducible refine r_iList ?_)
  | ((with_reducible refine' r_listE ?h1 ?_); (case h1 => first | assumption | exact SqL.of (by walk_at "lk")))
  | (with_reducible refine r_iRng1 ?_)
  | ((with_reducible refine' r_rngE ?h0 ?h1 ?_); (case h0 => first | omega | (split <;> omega)); (case h1 => first | omega | (split <;> omega))))
local macro_rules | `(tactic| walk_at "rd") => `(tactic| (repeat walk_at "rd2"))
local macro_rules | `(tactic| walk_at "st") => `(tactic| (repeat (first
  | (with_reducible refine r_gname ?_)
  | (with_reducible refine r_next ?_)
  | (with_reducible refine r_seq ?_)
  | (with_reducible refine r_asg ?_)
  | (with_reducible refine r_ret ?_)
  | (with_reducible refine r_for ?_)
  | (with_reducible refine r_iRng1 ?_)
  | (with_reducible refine r_iList ?_)
  | (with_reducible refine r_cons ?_)
  | (with_reducible refine r_par ?_)
  | (with_reducible refine r_par3 ?_))))
section
variable {P : Program} {w : World} {K : PySem.W.Frag} {mg : Str → Option Value} {base : Heap}
def spBlobX (C : Addr) : Sp := fun vs H Q E => ∃ (x : V) (t : Tr), vs = [x] ∧ Dn H x t ∧ TOk t ∧ (t.rowB = true → ∀ H', Same H H' → Q (.byt (byteArr t.row)) H') ∧ (t.rowB = false → Err C "numbers" t H E)
theorem ok_blobX {f C : Addr} {fd : FuncData} {k : Nat} (F : Fun K "blob" "blob" s_blob f fd) (R1 : Rai P w K mg base "NoBlob" C "numbers") (c_row : CalT P w K mg base 3 "is_row_of_bytes" spRowT) (m1 : mg "bytes" = none) : FnOk P w K mg base (L2.CX P w) (k + 9) f fd ["numbers"] (spBlobX C) := by
  refine F.okX sc_blob (fun vs H Q E h => ?_) (fun cdv A outer s H vs Q E hr h => ?_)
  · obtain ⟨x, t, rfl, _⟩ := h
    rfl
  · obtain ⟨x, t, rfl, dn, ht, q1, q2⟩ := h
    have hu := hu_of hr
    have nd := sc_blob.nd
    obtain ⟨fI1, fd1, ps1, T1, ty1, F1, hb1, mm1⟩ := R1.ex
    refine ⟨_, (pss_cons (ps_if (pt_not (pt_val (pe_cc c_row hr (by omega) (by rfl) (pa_cons (pv 0) pa_nil))))
        (pss_one (ps_raise rfl (takes_of rfl rfl rfl rfl) (pmk_oexG T1 ty1 F1 (hr.mono (by omega)) hb1 .nil pass0 (by rfl) mm1 (pa_cons (pv 0) pa_nil))))
        pss_nil)
      (pss_one (ps_ret (pe_callTy (call_rBytA K rfl) (by rfl) (by assumption) (by decide +kernel) (pa_cons (pv 0) pa_nil))))), ?_⟩
    walk_at "rd"
    refine ⟨x, t, rfl, dn, ht.2.1, fun H' e => ?_⟩
    cases hb : t.rowB with
    | true =>
      obtain ⟨p, rfl, hq, b8⟩ := row_at (K := K) (Dn.same e dn) hb
      walk_at "rd"
      exact ⟨p, t.row, rfl, hq, b8, q1 hb H' e⟩
    | false =>
      walk_at "rd"
      exact r_raise rfl (Dn.same e dn) ht ((q2 hb).same e)
end
end Th
namespace Th
open PySem PySem.Spec PyProof.Rows L2
local macro_rules | `(tactic| walk_at "lk") => `(tactic| first
  | assumption
  | exact upd_same
  | (refine upd_old (by assumption) ?_; walk_at "lk")
  | (refine upd_diff (by assumption) ?_; walk_at "lk")
  | (refine upd_diff (Ne.symm (by assumption)) ?_; walk_at "lk"))
local macro_rules | `(tactic| walk_at "cnd") => `(tactic| first
  | omega
  | (refine ⟨by omega, by omega⟩)
  | (refine ⟨by omega, by omega, by omega⟩)
  | (refine .inl ⟨by omega, by omega⟩)
  | (refine .inr ⟨by omega, by omega⟩)
  | (exact (show CPow _ _ from ⟨by decide, by decide, by omega⟩))
  | decide +kernel
  | (unfold CMulW; decide +kernel)
  | (exact wide_div (b := 64) (by omega) (by omega) (by decide) (by decide)))
local macro_rules | `(tactic| walk_at "rd1") => `(tactic| first
  | (with_reducible refine r_seq ?_)
  | (with_reducible refine r_asg ?_)
  | (with_reducible refine r_ret ?_)
  | (with_reducible refine r_if ?_)
  | (with_reducible refine r_gname ?_)
  | ((with_reducible refine' r_var ?hv ?_); (case hv => exact rfl))
  | (with_reducible refine r_c ?_)
  | (with_reducible refine r_op ?_)
  | (with_reducible refine r_I0 ?_)
  | ((with_reducible refine r_I ?hc ?_); (case hc => walk_at "cnd"))
  | (with_reducible refine r_test ?_)
  | (with_reducible refine r_tB ?_)
  | (with_reducible refine r_bl ?_)
  | (with_reducible refine r_not ?_)
  | (with_reducible refine r_and ?_)
  | (with_reducible refine r_or ?_)
  | (with_reducible refine r_ifE ?_)
  | (with_reducible refine r_notV ?_)
  | (with_reducible refine r_andV ?_)
  | (with_reducible refine r_orV ?_)
  | (with_reducible refine r_chain ?_)
  | (with_reducible refine r_cb ?_)
  | (with_reducible refine r_call ?_)
  | (with_reducible refine r_callN ?_)
  | (with_reducible refine r_nil ?_)
  | (with_reducible refine r_cons ?_)
  | ((with_reducible refine r_lst ?_))
  | ((with_reducible refine r_tup ?_))
  | ((with_reducible refine r_new ?_ ?_); (exact Nat.le_of_ble_eq_true rfl); (intro p hp))
  | (with_reducible refine r_rInt1 ?_)
  | (with_reducible refine r_rIntB ?_)
  | (with_reducible refine r_rAbs ?_)
  | (with_reducible refine r_rMin2 ?_)
  | (with_reducible refine r_rMax2 ?_)
  | ((with_reducible refine r_rLenZ ?hz ?_); (case hz => first | assumption | exact Nat.le_of_ble_eq_true rfl | (refine Nat.le_trans ?_ (by decide : 100000 ≤ sizeLine); omega)))
  | ((with_reducible refine r_addZ ?hz ?_); (case hz => (refine Nat.le_trans ?_ (by decide : 100000 ≤ sizeLine); first | omega | (simp only [Str.length] at *; simp; omega))))
  | ((with_reducible refine r_mulZ ?hz ?h0 ?h1 ?_); (case hz => first | omega | exact Nat.le_of_ble_eq_true rfl); (case h0 => omega); (case h1 => omega))
  | ((with_reducible refine' r_rLenQ ?h1 ?_); (case h1 => first | (exact .inl (by assumption)) | (exact .inr (by assumption)) | (exact .inl (SqL.of (by walk_at "lk"))) | (exact .inr (SqT.of (by walk_at "lk")))))
  | ((with_reducible refine r_eq ?hs ?_); (case hs => exact rfl))
  | ((with_reducible refine r_ne ?hs ?_); (case hs => exact rfl))
  | (with_reducible refine r_inC ?_)
  | ((with_reducible refine' r_cat ?h1 ?h2 ?h3 ?_); (case h1 => walk_at "lk"); (case h2 => walk_at "lk"); (case h3 => exact Nat.le_of_ble_eq_true rfl); (intro p hp))
  | ((with_reducible refine' r_rep ?h1 ?h2 ?h3 ?h4 ?_); (case h1 => walk_at "lk"); (case h2 => omega); (case h3 => omega); (case h4 => exact Nat.le_of_ble_eq_true rfl); (intro p hp))
  | ((with_reducible refine' r_append ?h1 ?h2 ?_); (case h1 => walk_at "lk"); (case h2 => first | exact (show _ + 1 ≤ sizeLine from Nat.le_of_ble_eq_true rfl) | exact Nat.lt_of_le_of_lt (by omega : _ ≤ 100000) (by decide)))
  | (with_reducible refine r_bm ?_)
  | ((with_reducible refine' r_tyL ?h1 ?_); (case h1 => walk_at "lk"))
  | ((with_reducible refine' r_ixL ?h1 ?h2 ?_); (case h1 => first | assumption | exact SqL.of (by walk_at "lk")); (case h2 => exact rfl))
  | ((with_reducible refine' r_ixT ?h1 ?h2 ?_); (case h1 => first | assumption | exact SqT.of (by walk_at "lk")); (case h2 => exact rfl))
  | (with_reducible refine r_gsub ?_)
  | ((with_reducible refine' r_setL ?h1 ?h2 ?_); (case h1 => walk_at "lk"); (case h2 => exact rfl))
  | (with_reducible refine r_un ?_)
  | (with_reducible refine r_neg ?_)
  | (with_reducible refine r_iteT ?_)
  | (with_reducible refine r_iteNT ?_)
  | (with_reducible refine r_iteNF ?_)
  | (with_reducible refine r_iteF ?_)
  | (with_reducible refine r_next ?_)
  | (with_reducible refine r_drop ?_)
  | (with_reducible refine r_cont ?_)
  | (with_reducible refine r_brk ?_))
local macro_rules | `(tactic| walk_at "ty") => `(tactic| first
  | assumption
  | exact .base (.int _)
  | exact .base (.str _)
  | exact .base (.bl _)
  | exact .base .non
  | exact .byt _
  | exact .base (.lst (by walk_at "lk"))
  | exact .base (.tup (by walk_at "lk")))
local macro_rules | `(tactic| walk_at "rd2") => `(tactic| first
  | walk_at "rd1"
  | ((with_reducible refine' r_isi true ?ht ?hk ?_); (case ht => walk_at "ty"); (case hk => first | assumption | decide +kernel))
  | ((with_reducible refine' r_isi false ?ht ?hk ?_); (case ht => walk_at "ty"); (case hk => first | assumption | decide +kernel))
  | ((with_reducible refine' r_isiT2 true true ?hT ?ht ?hk ?hk2 ?_); (case hT => walk_at "lk"); (case ht => walk_at "ty"); (case hk => decide +kernel); (case hk2 => decide +kernel))
  | ((with_reducible refine' r_isiT2 true false ?hT ?ht ?hk ?hk2 ?_); (case hT => walk_at "lk"); (case ht => walk_at "ty"); (case hk => decide +kernel); (case hk2 => decide +kernel))
  | ((with_reducible refine' r_isiT2 false true ?hT ?ht ?hk ?hk2 ?_); (case hT => walk_at "lk"); (case ht => walk_at "ty"); (case hk => decide +kernel); (case hk2 => decide +kernel))
  | ((with_reducible refine' r_isiT2 false false ?hT ?ht ?hk ?hk2 ?_); (case hT => walk_at "lk"); (case ht => walk_at "ty"); (case hk => decide +kernel); (case hk2 => decide +kernel))
  | (with_reducible refine r_iteNT ?_)
  | ((show (if (!true) = true then _ else _)); refine r_iteNT ?_)
  | (with_reducible refine r_r1 ?_)
  | (with_reducible refine r_maks ?_)
  | (with_reducible refine r_sfld ?_)
  | ((with_reducible refine' r_sfldE ?h1 ?h2 ?h3 ?h4 ?_); (case h1 => walk_at "lk"); (case h2 => assumption); (case h3 => assumption); (case h4 => exact (show _ + 1 ≤ 1000 from Nat.le_of_ble_eq_true rfl)))
  | (with_reducible refine r_fld ?_)
  | (with_reducible refine r_join ?_)
  | (with_reducible refine r_jcons ?_)
  | (with_reducible refine r_jnil ?_)
  | ((with_reducible refine r_rLenY ?hz ?_); (case hz => first | assumption | (refine Nat.le_trans ?_ (by decide : 100000 ≤ sizeLine); omega)))
  | (with_reducible refine r_par ?_)
  | (with_reducible refine r_pair ?_)
  | (with_reducible refine r_par3 ?_)
  | (with_reducible refine r_trip ?_)
  | ((with_reducible refine' r_gtup ?h1 ?h2 ?_); (case h1 => first | assumption | exact SqT.of (by walk_at "lk")); (case h2 => exact rfl))
  | (with_reducible refine r_gcons ?_)
  | (with_reducible refine r_gnil ?_)
  | ((with_reducible refine' r_slL ?h1 ?_); (case h1 => first | assumption | exact SqL.of (by walk_at "lk")); (intro p hp))
  | (with_reducible refine r_iTup ?_)
  | ((with_reducible refine' r_tupE ?h1 ?_); (case h1 => first | assumption | exact SqT.of (by walk_at "lk")))
  | (with_reducible refine r_m1 ?_)
  | (with_reducible refine r_isZ ?_)
  | (with_reducible refine r_sl ?_)
  | (with_reducible refine r_noPart ?_)
  | (with_reducible refine r_part ?_)
  | (with_reducible refine r_partE ?_)
  | ((with_reducible refine r_slS ?hz ?_); (case hz => first | assumption | (refine Nat.le_trans ?_ (by decide : 100000 ≤ sizeLine); omega)))
  | ((with_reducible refine' r_inT ?h1 ?h2 ?h3 ?_); (case h1 => first | assumption | (exact SqT.of (by walk_at "lk"))); (case h2 => exact rfl); (case h3 => exact rfl))
  | ((with_reducible refine' r_inL ?h1 ?h2 ?h3 ?_); (case h1 => first | assumption | (exact SqL.of (by walk_at "lk"))); (case h2 => exact rfl); (case h3 => exact rfl))
  | (with_reducible refine r_lc ?_)
  | (with_reducible refine r_for ?_)
  | (with_reducible refine r_iStr ?_)
  | (with_reducible refine r_strE ?_)
  | (with_reducible refine r_iList ?_)
  | ((with_reducible refine' r_listE ?h1 ?_); (case h1 => first | assumption | exact SqL.of (by walk_at "lk")))
  | (with_reducible refine r_iRng1 ?_)
  | ((with_reducible refine' r_rngE ?h0 ?h1 ?_); (case h0 => first | omega | (split <;> omega)); (case h1 => first | omega | (split <;> omega))))
local macro_rules | `(tactic| walk_at "rd") => `(tactic| (repeat walk_at "rd2"))
local macro_rules | `(tactic| walk_at "st") => `(tactic| (repeat (first
  | (with_reducible refine r_gname ?_)
  | (with_reducible refine r_next ?_)
  | (with_reducible refine r_seq ?_)
  | (with_reducible refine r_asg ?_)
  | (with_reducible refine r_ret ?_)
  | (with_reducible refine r_for ?_)
  | (with_reducible refine r_iRng1 ?_)
  | (with_reducible refine r_iList ?_)
  | (with_reducible refine r_cons ?_)
  | (with_reducible refine r_par ?_)
  | (with_reducible refine r_par3 ?_))))
open LamX (Tabs TabB ExtN)
/-! ### files: the steps behind the draws -/
theorem ta_ix {K : PySem.W.Frag} {i : Nat} {p : Addr} {x y : V} {σ : L2.St} {H : Hp} {tr : TA} {Q : List V → Hp → Prop} (hi : σ[i]? = some (some (.ref p))) (hp : H p = some (.tup [x, y])) (h : tr σ H fun xs H2 => Q (x :: xs) H2) : tCons (tOp (rIxT K) (tVar i) (tC (V.int 0))) tr σ H Q :=
  r_cons (r_op (r_var hi (r_c (r_ixT (SqT.of hp) rfl h))))
theorem set_self {α : Type} : ∀ {l : List α} {i : Nat} {x : α}, l[i]? = some x → l.set i x = l
  | [], _, _, h => by cases h
  | y :: l, 0, x, h => by cases h; rfl
  | y :: l, i + 1, x, h => by
    rw [List.set_cons_succ, set_self (l := l) (i := i) (by simpa using h)]
def is4k : V → Bool
  | .int i => decide (i = 4096)
  | _ => false
theorem r_sz {K : PySem.W.Frag} {H : Hp} {Q : VK} {x : V} {f : Bool} (h1 : f = false → x = .int 9 ∨ x = .int 4096) (h2 : f = true → OddSz H x) (q : Q (.bl (is4k x)) H) : rEqD K x (.int 4096) H Q := by
  cases f with
  | false =>
    rcases h1 rfl with rfl | rfl
    · exact ⟨.int 9, .int 4096, .int _, .int _, by decide +kernel, by decide +kernel, q⟩
    · exact ⟨.int 4096, .int 4096, .int _, .int _, by decide +kernel, by decide +kernel, q⟩
  | true =>
    rcases h2 rfl with rfl | rfl | rfl | rfl | rfl | ⟨l, rfl, hl⟩
    · exact ⟨.int (-1), .int 4096, .int _, .int _, by decide +kernel, by decide +kernel, q⟩
    · exact ⟨.int 4097, .int 4096, .int _, .int _, by decide +kernel, by decide +kernel, q⟩
    · exact ⟨.bool true, .int 4096, .bl _, .int _, by decide +kernel, by decide +kernel, q⟩
    · exact ⟨.none, .int 4096, .non, .int _, by decide +kernel, by decide +kernel, q⟩
    · exact ⟨.str (Str.ofString "9"), .int 4096, .str _, .int _, by decide +kernel, by decide +kernel, q⟩
    · exact ⟨.list [.int 9], .int 4096, .lst (SqL.of hl) (.cons (.int _) .nil), .int _, by decide +kernel, by decide +kernel, q⟩
theorem pcB_ok {f : Bool} {ts : List Tr} (h : pcB f (.tup ts) = true) : TOk (.tup ts) ∧ PyData.strOk (Tr.tup ts).shown = true ∧ ts.length ≤ 3 ∧ ∃ r, tup8 8 (byteArr [1, 2]) ts = some r ∧ piecesB 9 ts = !f ∧ piecesB 4096 ts = (!f || r) := by
  simp only [pcB, Bool.and_eq_true, decide_eq_true_eq] at h
  obtain ⟨h1, h2, h3⟩ := h
  cases q : tup8 8 (byteArr [1, 2]) ts with
  | none =>
    rw [q] at h3
    cases h3
  | some r =>
    rw [q] at h3
    simp only [Bool.and_eq_true, beq_iff_eq] at h3
    exact ⟨(okT_ok h1).1, (okT_ok h1).2.1, h2, r, rfl, h3.1, h3.2⟩
theorem r_eqDue1 {K : PySem.W.Frag} {H : Hp} {Q : VK} {p q : Addr} {d : Option (Str × Tr)} (h1 : H p = some (.lst (dueV d))) (h2 : H q = some (.lst (dueV d))) (ok : dueOk d) (h : Q (.bl true) H) : rEqD K (.ref p) (.ref q) H Q := by
  cases d with
  | none => exact ⟨_, _, .lst (SqL.of h1) (.cons (.str _) (.cons (.str _) (.cons (.bl _) .nil))), .lst (SqL.of h2) (.cons (.str _) (.cons (.str _) (.cons (.bl _) .nil))), by decide +kernel, by decide +kernel, h⟩
  | some x =>
    obtain ⟨k, t⟩ := x
    obtain ⟨o1, o2⟩ := ok k t rfl
    have sh : SeqAt.shaped (.list [.str k, .str t.shown, .bool true]) = true := by simp [SeqAt.shaped, PyData.canLay0, PyData.canLayAll0, PyData.depth, PyData.depthAll, o1, o2]
    refine ⟨.list [.str k, .str t.shown, .bool true], .list [.str k, .str t.shown, .bool true], .lst (SqL.of h1) (.cons (.str _) (.cons (.str _) (.cons (.bl _) .nil))), .lst (SqL.of h2) (.cons (.str _) (.cons (.str _) (.cons (.bl _) .nil))), sh, sh, ?_⟩
    have e : PyData.eqv (.list [.str k, .str t.shown, .bool true]) (.list [.str k, .str t.shown, .bool true]) = true := by simp [PyData.eqv, PyData.eqvAll]
    rw [e]
    exact h
section
variable {K K' : PySem.W.Frag} {σ : L2.St} {H : Hp} {D : Ends}
theorem if_8 {p3 p4 q4 : Addr} {v3 : V} {f3 f4 : Bool} {ys : List V} {ts : List Tr} (h12 : σ[12]? = some (some (.ref p3))) (h3 : σ[3]? = some (some (.ref p4))) (A3 : H p3 = some (.tup [v3, .bl f3])) (pc : PcAt H p4 f4 q4 ys ts)
    (in3 : f3 = false → v3 = .int 9 ∨ v3 = .int 4096) (odd : f3 = true → OddSz H v3)
    (k : ∀ p5 f5 H', Same H H' → H' p5 = some (.tup [.ref q4, .bl f5]) → (∀ i, v3 = .int i → f3 = false → piecesB i ts = !f5) → D.nx (σ.set 3 (some (.ref p5))) H') :
    tIfS (tAnd (tTest (tOp (rEqD K') (tOp (rIxT K) (tVar 12) (tC (V.int 0))) (tC (V.int 4096)))) (tTest (tOp (rEq8 8 (byteArr [1, 2])) (tOp (rIxT K) (tVar 3) (tC (V.int 0))) (tTup (tCons (tTup (tCons (tC (V.int 8)) (tCons (tCall spBlob [] E0 (tCons (tLst (tCons (tC (V.int 1)) (tCons (tC (V.int 2)) tNil))) tNil)) tNil))) tNil)))))
      (tAsg (tTup (tCons (tOp (rIxT K) (tVar 3) (tC (V.int 0))) (tCons (tC (V.bl false)) tNil))) (gName 3)) tNext D σ H := by
  obtain ⟨_, _, _, r, t8, b9, b4⟩ := pcB_ok pc.ok
  have same : (∀ i, v3 = .int i → f3 = false → piecesB i ts = !f4) → D.nx σ H := fun c => by
    have := k p4 f4 H (Same.refl _) pc.at_ c
    rw [set_self h3] at this
    exact this
  refine r_if (r_and ?_)
  refine r_test (r_op (r_op (r_var h12 (r_c (r_ixT (SqT.of A3) rfl (r_c (r_sz in3 odd (r_bl ?_))))))))
  cases hz : is4k v3 with
  | false =>
    walk_at "rd"
    refine same fun i e z => ?_
    rcases in3 z with h | h
    · rw [h] at e
      cases e
      exact b9
    · rw [h] at hz
      cases hz
  | true =>
    have e3 : v3 = .int 4096 := by
      cases v3 with
      | int i =>
        unfold is4k at hz
        rw [of_decide_eq_true hz]
      | _ => cases hz
    walk_at "rd"
    refine r_var h3 (r_c (r_ixT (SqT.of pc.at_) rfl ?_))
    refine mt1 (H0 := H) (H1 := H) (fun _ h => h) (mt2 (fun _ h => h) (mi 8) (mb2 1 2 (by decide) (by decide))) H _ (Same.refl _) (fun v G e d => ?_)
    cases d with
    | tup hp dp =>
      cases dp with
      | cons d1 d2 =>
        cases d2
        cases d1 with
        | tup hq dq =>
          cases dq with
          | cons d3 d4 =>
            cases d3
            cases d4 with
            | cons d5 d6 =>
              cases d6
              have d5' := d5
              unfold bB at d5'
              cases d5'
              refine ⟨q4, _, _, ys, ts, r, rfl, rfl, e _ _ pc.tup, DnA.same e pc.dn, fresh_sub _ _ hp, fresh_sub _ _ hq, t8, r_bl ?_⟩
              cases r with
              | false =>
                refine r_iteF (r_next ?_)
                have := k p4 f4 G e (e _ _ pc.at_) (fun i ei _ => by
                  rw [e3] at ei
                  cases ei
                  rw [b4, Bool.or_false])
                rw [set_self h3] at this
                exact this
              | true =>
                refine r_iteT (r_asg (ta_ix h3 (e _ _ pc.at_) (r_cons (r_c (r_nil ⟨Nat.le_of_ble_eq_true rfl, fun p5 hp5 => ?_⟩)))))
                exact k p5 false _ (e.trans (same_new hp5)) upd_same (fun i ei _ => by
                  rw [e3] at ei
                  cases ei
                  rw [b4, Bool.or_true]
                  rfl)
theorem asg_due {i j : Nat} {g : TG} {key : Str} {p L : Addr} {x : V} {t : Tr} {f : Bool} {due : Option (Str × Tr)} (hi : σ[i]? = some (some (.ref p))) (hp : H p = some (.tup [x, .bl f])) (d : Dn H x t) (o : TOk t) (hj : σ[j]? = some (some (.ref L))) (hL : H L = some (.lst (dueV due)))
    (k : ∀ M H', Same H H' → H' M = some (.lst (dueV (kDue key f t due))) → g (.ref M) σ H' D.nx) :
    tAsg (tIf (L2.tB (tOp (rIxT K) (tVar i) (tC (V.int 1)))) (tLst (tCons (tC (V.str key)) (tCons (tCB rReprT (tCons (tOp (rIxT K) (tVar i) (tC (V.int 0))) tNil)) (tCons (tC (V.bl true)) tNil)))) (tVar j)) g D σ H := by
  refine r_asg (r_ifE (r_tB (r_op (r_var hi (r_c (r_ixT (SqT.of hp) rfl (r_bl ?_)))))))
  cases f with
  | true =>
    refine r_iteT (r_cons (r_c (r_cons ?_)))
    refine ta_ix hi hp (r_nil (r_reprT d o (r_cons (r_c (r_nil ⟨Nat.le_of_ble_eq_true rfl, fun M hM => ?_⟩)))))
    exact k M _ (same_new hM) upd_same
  | false => exact r_iteF (r_var hj (k L H (Same.refl _) hL))
theorem asg_due2 {i j m : Nat} {g : TG} {key : Str} {p L : Addr} {x y : V} {t : Tr} {f : Bool} {due : Option (Str × Tr)} (hi : σ[i]? = some (some (.ref p))) (hp : H p = some (.tup [x, .bl f])) (hm : σ[m]? = some (some y)) (d : Dn H y t) (o : TOk t) (hj : σ[j]? = some (some (.ref L))) (hL : H L = some (.lst (dueV due)))
    (k : ∀ M H', Same H H' → H' M = some (.lst (dueV (kDue key f t due))) → g (.ref M) σ H' D.nx) :
    tAsg (tIf (L2.tB (tOp (rIxT K) (tVar i) (tC (V.int 1)))) (tLst (tCons (tC (V.str key)) (tCons (tCB rReprT (tCons (tVar m) tNil)) (tCons (tC (V.bl true)) tNil)))) (tVar j)) g D σ H := by
  refine r_asg (r_ifE (r_tB (r_op (r_var hi (r_c (r_ixT (SqT.of hp) rfl (r_bl ?_)))))))
  cases f with
  | true =>
    refine r_iteT (r_cons (r_c (r_cons (r_cons (r_var hm (r_nil (r_reprT d o (r_cons (r_c (r_nil ⟨Nat.le_of_ble_eq_true rfl, fun M hM => ?_⟩))))))))))
    exact k M _ (same_new hM) upd_same
  | false => exact r_iteF (r_var hj (k L H (Same.refl _) hL))
theorem if_len {q : Addr} {ys : List V} {n : Int} {t : TS} (h13 : σ[13]? = some (some (.ref q))) (hq : H q = some (.tup ys)) (h1 : (ys.length : Int) = n → t D σ H) (h2 : (ys.length : Int) ≠ n → D.nx σ H) :
    tIfS (tTest (tOp rEq (tCB (rLenQ K) (tCons (tVar 13) tNil)) (tC (V.int n)))) t tNext D σ H := by
  refine r_if (r_test (r_op (r_cons (r_var h13 (r_nil ?_)))))
  walk_at "rd"
  by_cases c : (ys.length : Int) = n
  · rw [if_pos (decide_eq_true (congrArg V.int c))]
    exact h1 c
  · rw [if_neg (by simpa using c)]
    exact r_next (h2 c)
end
/-! ### what is known of the drawn values, to be carried from heap to heap -/
structure Fr where
  p1 : Addr
  p2 : Addr
  p3 : Addr
  p5 : Addr
  pb : Addr
  pt : Addr
  q : Addr
  v1 : V
  v2 : V
  v3 : V
  x : V
  y : V
  f1 : Bool
  f2 : Bool
  f3 : Bool
  f5 : Bool
  fb : Bool
  ft : Bool
  tn : Tr
  td : Tr
  tz : Tr
  tb : Tr
  tu : Tr
  ys : List V
  ts : List Tr
structure Fa (G : Hp) (r : Fr) : Prop where
  a1 : G r.p1 = some (.tup [r.v1, .bl r.f1])
  a2 : G r.p2 = some (.tup [r.v2, .bl r.f2])
  a3 : G r.p3 = some (.tup [r.v3, .bl r.f3])
  a5 : G r.p5 = some (.tup [.ref r.q, .bl r.f5])
  ab : G r.pb = some (.tup [r.x, .bl r.fb])
  at_ : G r.pt = some (.tup [r.y, .bl r.ft])
  aq : G r.q = some (.tup r.ys)
  d1 : Dn G r.v1 r.tn
  d2 : Dn G r.v2 r.td
  d3 : Dn G r.v3 r.tz
  db : Dn G r.x r.tb
  dt : Dn G r.y r.tu
  dq : DnA G r.ys r.ts
theorem Fa.lt {G G' : Hp} {r : Fr} (e : LT G G') (h : Fa G r) : Fa G' r := ⟨e.t _ _ h.a1, e.t _ _ h.a2, e.t _ _ h.a3, e.t _ _ h.a5, e.t _ _ h.ab, e.t _ _ h.at_, e.t _ _ h.aq, h.d1.lt e, h.d2.lt e, h.d3.lt e, h.db.lt e, h.dt.lt e, h.dq.lt e⟩
structure Fok (r : Fr) : Prop where
  on : NmOk r.tn
  sn : PyData.strOk r.tn.shown = true
  en : r.tn.nameB = !r.f1
  od : TOk r.td
  sd : PyData.strOk r.td.shown = true
  ed : r.td.dataB = !r.f2
  oz : TOk r.tz
  sz : PyData.strOk r.tz.shown = true
  ez : r.tz.within 0 4096 = !r.f3
  ob : TOk r.tb
  sb : PyData.strOk r.tb.shown = true
  eb : stamp1 r.tb = !r.fb
  ou : TOk r.tu
  su : PyData.strOk r.tu.shown = true
  eu : stamp2 r.tu = !r.ft
  op : TOk (.tup r.ts)
  sp : PyData.strOk (Tr.tup r.ts).shown = true
  lp : r.ts.length ≤ 3
  ep : ∀ i, r.tz = .int i → r.f3 = false → piecesB i r.ts = !r.f5
def Fr.last (r : Fr) : Option (Str × Tr) := stDue r.fb r.ft r.tb r.tu
def Fr.due1 (r : Fr) : Option (Str × Tr) := kDue "name" r.f1 r.tn (kDue "data" r.f2 r.td r.last)
def Fr.due2 (r : Fr) : Option (Str × Tr) := kDue "name" r.f1 r.tn (kDue "size" r.f3 r.tz (kDue "pieces" r.f5 (.tup r.ts) r.last))
theorem Fok.ok0 {r : Fr} (h : Fok r) : dueOk r.last := dueOk_st h.sb h.su
theorem Fok.ok1 {r : Fr} (h : Fok r) : dueOk r.due1 := dueOk_k (by decide +kernel) h.sn (dueOk_k (by decide +kernel) h.sd h.ok0)
theorem Fok.ok2 {r : Fr} (h : Fok r) : dueOk r.due2 := dueOk_k (by decide +kernel) h.sn (dueOk_k (by decide +kernel) h.sz (dueOk_k (by decide +kernel) h.sp h.ok0))
theorem Fok.vd1 {c : Ec} {r : Fr} (h : Fok r) : VdIs c (vName c r.tn (vData c r.td (vStamp c r.tb r.tu))) r.due1 := vd_name h.en h.on.1 (vd_data h.ed h.od (vd_stamp h.eb h.eu h.ob h.ou))
theorem Fok.vd2 {c : Ec} {r : Fr} (h : Fok r) : VdIs c (vName c r.tn (vPieces c r.tz r.ts (vStamp c r.tb r.tu))) r.due2 := vd_name h.en h.on.1 (vd_pieces h.ez h.ep h.oz h.op (vd_stamp h.eb h.eu h.ob h.ou))

end Th
namespace Th
open PySem PySem.Spec PyProof.Rows L2
local macro_rules | `(tactic| walk_at "lk") => `(tactic| first
  | assumption
  | exact upd_same
  | (refine upd_old (by assumption) ?_; walk_at "lk")
  | (refine upd_diff (by assumption) ?_; walk_at "lk")
  | (refine upd_diff (Ne.symm (by assumption)) ?_; walk_at "lk"))
local macro_rules | `(tactic| walk_at "cnd") => `(tactic| first
  | omega
  | (refine ⟨by omega, by omega⟩)
  | (refine ⟨by omega, by omega, by omega⟩)
  | (refine .inl ⟨by omega, by omega⟩)
  | (refine .inr ⟨by omega, by omega⟩)
  | (exact (show CPow _ _ from ⟨by decide, by decide, by omega⟩))
  | decide +kernel
  | (unfold CMulW; decide +kernel)
  | (exact wide_div (b := 64) (by omega) (by omega) (by decide) (by decide)))
local macro_rules | `(tactic| walk_at "rd1") => `(tactic| first
  | (with_reducible refine r_seq ?_)
  | (with_reducible refine r_asg ?_)
  | (with_reducible refine r_ret ?_)
  | (with_reducible refine r_if ?_)
  | (with_reducible refine r_gname ?_)
  | ((with_reducible refine' r_var ?hv ?_); (case hv => exact rfl))
  | (with_reducible refine r_c ?_)
  | (with_reducible refine r_op ?_)
  | (with_reducible refine r_I0 ?_)
  | ((with_reducible refine r_I ?hc ?_); (case hc => walk_at "cnd"))
  | (with_reducible refine r_test ?_)
  | (with_reducible refine r_tB ?_)
  | (with_reducible refine r_bl ?_)
  | (with_reducible refine r_not ?_)
  | (with_reducible refine r_and ?_)
  | (with_reducible refine r_or ?_)
  | (with_reducible refine r_ifE ?_)
  | (with_reducible refine r_notV ?_)
  | (with_reducible refine r_andV ?_)
  | (with_reducible refine r_orV ?_)
  | (with_reducible refine r_chain ?_)
  | (with_reducible refine r_cb ?_)
  | (with_reducible refine r_call ?_)
  | (with_reducible refine r_callN ?_)
  | (with_reducible refine r_nil ?_)
  | (with_reducible refine r_cons ?_)
  | ((with_reducible refine r_lst ?_))
  | ((with_reducible refine r_tup ?_))
  | ((with_reducible refine r_new ?_ ?_); (exact Nat.le_of_ble_eq_true rfl); (intro p hp))
  | (with_reducible refine r_rInt1 ?_)
  | (with_reducible refine r_rIntB ?_)
  | (with_reducible refine r_rAbs ?_)
  | (with_reducible refine r_rMin2 ?_)
  | (with_reducible refine r_rMax2 ?_)
  | ((with_reducible refine r_rLenZ ?hz ?_); (case hz => first | assumption | exact Nat.le_of_ble_eq_true rfl | (refine Nat.le_trans ?_ (by decide : 100000 ≤ sizeLine); omega)))
  | ((with_reducible refine r_addZ ?hz ?_); (case hz => (refine Nat.le_trans ?_ (by decide : 100000 ≤ sizeLine); first | omega | (simp only [Str.length] at *; simp; omega))))
  | ((with_reducible refine r_mulZ ?hz ?h0 ?h1 ?_); (case hz => first | omega | exact Nat.le_of_ble_eq_true rfl); (case h0 => omega); (case h1 => omega))
  | ((with_reducible refine' r_rLenQ ?h1 ?_); (case h1 => first | (exact .inl (by assumption)) | (exact .inr (by assumption)) | (exact .inl (SqL.of (by walk_at "lk"))) | (exact .inr (SqT.of (by walk_at "lk")))))
  | ((with_reducible refine r_eq ?hs ?_); (case hs => exact rfl))
  | ((with_reducible refine r_ne ?hs ?_); (case hs => exact rfl))
  | (with_reducible refine r_inC ?_)
  | ((with_reducible refine' r_cat ?h1 ?h2 ?h3 ?_); (case h1 => walk_at "lk"); (case h2 => walk_at "lk"); (case h3 => exact Nat.le_of_ble_eq_true rfl); (intro p hp))
  | ((with_reducible refine' r_rep ?h1 ?h2 ?h3 ?h4 ?_); (case h1 => walk_at "lk"); (case h2 => omega); (case h3 => omega); (case h4 => exact Nat.le_of_ble_eq_true rfl); (intro p hp))
  | ((with_reducible refine' r_append ?h1 ?h2 ?_); (case h1 => walk_at "lk"); (case h2 => first | exact (show _ + 1 ≤ sizeLine from Nat.le_of_ble_eq_true rfl) | exact Nat.lt_of_le_of_lt (by omega : _ ≤ 100000) (by decide)))
  | (with_reducible refine r_bm ?_)
  | ((with_reducible refine' r_tyL ?h1 ?_); (case h1 => walk_at "lk"))
  | ((with_reducible refine' r_ixL ?h1 ?h2 ?_); (case h1 => first | assumption | exact SqL.of (by walk_at "lk")); (case h2 => exact rfl))
  | ((with_reducible refine' r_ixT ?h1 ?h2 ?_); (case h1 => first | assumption | exact SqT.of (by walk_at "lk")); (case h2 => exact rfl))
  | (with_reducible refine r_gsub ?_)
  | ((with_reducible refine' r_setL ?h1 ?h2 ?_); (case h1 => walk_at "lk"); (case h2 => exact rfl))
  | (with_reducible refine r_un ?_)
  | (with_reducible refine r_neg ?_)
  | (with_reducible refine r_iteT ?_)
  | (with_reducible refine r_iteNT ?_)
  | (with_reducible refine r_iteNF ?_)
  | (with_reducible refine r_iteF ?_)
  | (with_reducible refine r_next ?_)
  | (with_reducible refine r_drop ?_)
  | (with_reducible refine r_cont ?_)
  | (with_reducible refine r_brk ?_))
local macro_rules | `(tactic| walk_at "ty") => `(tactic| first
  | assumption
  | exact .base (.int _)
  | exact .base (.str _)
  | exact .base (.bl _)
  | exact .base .non
  | exact .byt _
  | exact .base (.lst (by walk_at "lk"))
  | exact .base (.tup (by walk_at "lk")))
local macro_rules | `(tactic| walk_at "rd2") => `(tactic| first
  | walk_at "rd1"
  | ((with_reducible refine' r_isi true ?ht ?hk ?_); (case ht => walk_at "ty"); (case hk => first | assumption | decide +kernel))
  | ((with_reducible refine' r_isi false ?ht ?hk ?_); (case ht => walk_at "ty"); (case hk => first | assumption | decide +kernel))
  | ((with_reducible refine' r_isiT2 true true ?hT ?ht ?hk ?hk2 ?_); (case hT => walk_at "lk"); (case ht => walk_at "ty"); (case hk => decide +kernel); (case hk2 => decide +kernel))
  | ((with_reducible refine' r_isiT2 true false ?hT ?ht ?hk ?hk2 ?_); (case hT => walk_at "lk"); (case ht => walk_at "ty"); (case hk => decide +kernel); (case hk2 => decide +kernel))
  | ((with_reducible refine' r_isiT2 false true ?hT ?ht ?hk ?hk2 ?_); (case hT => walk_at "lk"); (case ht => walk_at "ty"); (case hk => decide +kernel); (case hk2 => decide +kernel))
  | ((with_reducible refine' r_isiT2 false false ?hT ?ht ?hk ?hk2 ?_); (case hT => walk_at "lk"); (case ht => walk_at "ty"); (case hk => decide +kernel); (case hk2 => decide +kernel))
  | (with_reducible refine r_iteNT ?_)
  | ((show (if (!true) = true then _ else _)); refine r_iteNT ?_)
  | (with_reducible refine r_r1 ?_)
  | (with_reducible refine r_maks ?_)
  | (with_reducible refine r_sfld ?_)
  | ((with_reducible refine' r_sfldE ?h1 ?h2 ?h3 ?h4 ?_); (case h1 => walk_at "lk"); (case h2 => assumption); (case h3 => assumption); (case h4 => exact (show _ + 1 ≤ 1000 from Nat.le_of_ble_eq_true rfl)))
  | (with_reducible refine r_fld ?_)
  | (with_reducible refine r_join ?_)
  | (with_reducible refine r_jcons ?_)
  | (with_reducible refine r_jnil ?_)
  | ((with_reducible refine r_rLenY ?hz ?_); (case hz => first | assumption | (refine Nat.le_trans ?_ (by decide : 100000 ≤ sizeLine); omega)))
  | (with_reducible refine r_par ?_)
  | (with_reducible refine r_pair ?_)
  | (with_reducible refine r_par3 ?_)
  | (with_reducible refine r_trip ?_)
  | ((with_reducible refine' r_gtup ?h1 ?h2 ?_); (case h1 => first | assumption | exact SqT.of (by walk_at "lk")); (case h2 => exact rfl))
  | (with_reducible refine r_gcons ?_)
  | (with_reducible refine r_gnil ?_)
  | ((with_reducible refine' r_slL ?h1 ?_); (case h1 => first | assumption | exact SqL.of (by walk_at "lk")); (intro p hp))
  | (with_reducible refine r_iTup ?_)
  | ((with_reducible refine' r_tupE ?h1 ?_); (case h1 => first | assumption | exact SqT.of (by walk_at "lk")))
  | (with_reducible refine r_m1 ?_)
  | (with_reducible refine r_isZ ?_)
  | (with_reducible refine r_sl ?_)
  | (with_reducible refine r_noPart ?_)
  | (with_reducible refine r_part ?_)
  | (with_reducible refine r_partE ?_)
  | ((with_reducible refine r_slS ?hz ?_); (case hz => first | assumption | (refine Nat.le_trans ?_ (by decide : 100000 ≤ sizeLine); omega)))
  | ((with_reducible refine' r_inT ?h1 ?h2 ?h3 ?_); (case h1 => first | assumption | (exact SqT.of (by walk_at "lk"))); (case h2 => exact rfl); (case h3 => exact rfl))
  | ((with_reducible refine' r_inL ?h1 ?h2 ?h3 ?_); (case h1 => first | assumption | (exact SqL.of (by walk_at "lk"))); (case h2 => exact rfl); (case h3 => exact rfl))
  | (with_reducible refine r_lc ?_)
  | (with_reducible refine r_for ?_)
  | (with_reducible refine r_iStr ?_)
  | (with_reducible refine r_strE ?_)
  | (with_reducible refine r_iList ?_)
  | ((with_reducible refine' r_listE ?h1 ?_); (case h1 => first | assumption | exact SqL.of (by walk_at "lk")))
  | (with_reducible refine r_iRng1 ?_)
  | ((with_reducible refine' r_rngE ?h0 ?h1 ?_); (case h0 => first | omega | (split <;> omega)); (case h1 => first | omega | (split <;> omega))))
local macro_rules | `(tactic| walk_at "rd") => `(tactic| (repeat walk_at "rd2"))
local macro_rules | `(tactic| walk_at "st") => `(tactic| (repeat (first
  | (with_reducible refine r_gname ?_)
  | (with_reducible refine r_next ?_)
  | (with_reducible refine r_seq ?_)
  | (with_reducible refine r_asg ?_)
  | (with_reducible refine r_ret ?_)
  | (with_reducible refine r_for ?_)
  | (with_reducible refine r_iRng1 ?_)
  | (with_reducible refine r_iList ?_)
  | (with_reducible refine r_cons ?_)
  | (with_reducible refine r_par ?_)
  | (with_reducible refine r_par3 ?_))))
open LamX (Tabs TabB ExtN)
theorem len2 {α : Type} : ∀ {l : List α}, l.length = 2 → ∃ x y, l = [x, y]
  | [x, y], _ => ⟨x, y, rfl⟩
theorem len3 {α : Type} : ∀ {l : List α}, l.length = 3 → ∃ x y z, l = [x, y, z]
  | [x, y, z], _ => ⟨x, y, z, rfl⟩
theorem tail_files {c : Ec} {K K1 : PySem.W.Frag} {T : List (Addr × Str)} {q : Str} {ps : Arguments} {bd1 bd2 bd3 bd4 bd5 : Expr} {sc1 sc2 sc3 sc4 sc5 : Scope} {cl1 cl2 cl3 cl4 cl5 : List (Str × Addr)} {CF CS a L : Addr} {n3 : Nat} {o1 o2 o5 o6 o7 o9 : Option V} {GD : Hp} {D : Ends} {r : Fr}
    (hn : n3 = 3) (FD : Fa GD r) (FO : Fok r) (tD : Tabs T GD) (sD : Src GD a) (atD : GD L = some (.lst (dueV r.last))) (fin : ∀ H', ExtN GD H' → Src H' a → Tabs T H' → D.rt (.bl true) H') :
    (tSeq (tAsg (tIf (L2.tB (tOp (rIxT K) (tVar 10) (tC (V.int 1)))) (tLst (tCons (tC (V.str (Str.ofString "data"))) (tCons (tCB rReprT (tCons (tOp (rIxT K) (tVar 10) (tC (V.int 0))) tNil)) (tCons (tC (V.bl true)) tNil)))) (tVar 4)) (gName 5))
      (tSeq (tAsg (tIf (L2.tB (tOp (rIxT K) (tVar 11) (tC (V.int 1)))) (tLst (tCons (tC (V.str (Str.ofString "name"))) (tCons (tCB rReprT (tCons (tOp (rIxT K) (tVar 11) (tC (V.int 0))) tNil)) (tCons (tC (V.bl true)) tNil)))) (tVar 5)) (gName 5))
      (tSeq (tIfS (tTest (tOp (rNeD K1) (tCallT (tLamV T q ps bd1 sc1 cl1) q ps bd1 sc1 cl1 (TTerr c) fun E_ => tMakX (pX (spFileX c CF)) 2 CF E_ (tCons (tOp (rIxT K) (tVar 11) (tC (V.int 0))) (tCons (tOp (rIxT K) (tVar 10) (tC (V.int 0))) tNil)) (tCons (tOp (rIxT K) (tVar 8) (tC (V.int 0))) (tCons (tOp (rIxT K) (tVar 14) (tC (V.int 0))) tNil))) (tVar 5))) (tRet (tC (V.bl false))) tNext)
      (tSeq (tAsg (tIf (L2.tB (tOp (rIxT K) (tVar 3) (tC (V.int 1)))) (tLst (tCons (tC (V.str (Str.ofString "pieces"))) (tCons (tCB rReprT (tCons (tVar 13) tNil)) (tCons (tC (V.bl true)) tNil)))) (tVar 4)) (gName 5))
      (tSeq (tAsg (tIf (L2.tB (tOp (rIxT K) (tVar 12) (tC (V.int 1)))) (tLst (tCons (tC (V.str (Str.ofString "size"))) (tCons (tCB rReprT (tCons (tOp (rIxT K) (tVar 12) (tC (V.int 0))) tNil)) (tCons (tC (V.bl true)) tNil)))) (tVar 5)) (gName 5))
      (tSeq (tAsg (tIf (L2.tB (tOp (rIxT K) (tVar 11) (tC (V.int 1)))) (tLst (tCons (tC (V.str (Str.ofString "name"))) (tCons (tCB rReprT (tCons (tOp (rIxT K) (tVar 11) (tC (V.int 0))) tNil)) (tCons (tC (V.bl true)) tNil)))) (tVar 5)) (gName 5))
      (tSeq (tIfS (tTest (tOp rEq (tCB (rLenQ K) (tCons (tVar 13) tNil)) (tC (V.int 0)))) (tRet (tOp (rEqD K1) (tCallT (tLamV T q ps bd2 sc2 cl2) q ps bd2 sc2 cl2 (TTerr c) fun E_ => tMakX (spSpa c CS) 2 CS E_ (tCons (tOp (rIxT K) (tVar 11) (tC (V.int 0))) (tCons (tOp (rIxT K) (tVar 12) (tC (V.int 0))) tNil)) (tCons (tOp (rIxT K) (tVar 8) (tC (V.int 0))) (tCons (tOp (rIxT K) (tVar 14) (tC (V.int 0))) tNil))) (tVar 5))) tNext)
      (tSeq (tIfS (tTest (tOp rEq (tCB (rLenQ K) (tCons (tVar 13) tNil)) (tC (V.int 1)))) (tRet (tOp (rEqD K1) (tCallT (tLamV T q ps bd3 sc3 cl3) q ps bd3 sc3 cl3 (TTerr c) fun E_ => tMakX (spSpa c CS) 2 CS E_ (tCons (tOp (rIxT K) (tVar 11) (tC (V.int 0))) (tCons (tOp (rIxT K) (tVar 12) (tC (V.int 0))) (tCons (tOp (rIxT K) (tVar 13) (tC (V.int 0))) tNil))) (tCons (tOp (rIxT K) (tVar 8) (tC (V.int 0))) (tCons (tOp (rIxT K) (tVar 14) (tC (V.int 0))) tNil))) (tVar 5))) tNext)
      (tSeq (tIfS (tTest (tOp rEq (tCB (rLenQ K) (tCons (tVar 13) tNil)) (tC (V.int 2)))) (tRet (tOp (rEqD K1) (tCallT (tLamV T q ps bd4 sc4 cl4) q ps bd4 sc4 cl4 (TTerr c) fun E_ => tMakX (spSpa c CS) 2 CS E_ (tCons (tOp (rIxT K) (tVar 11) (tC (V.int 0))) (tCons (tOp (rIxT K) (tVar 12) (tC (V.int 0))) (tCons (tOp (rIxT K) (tVar 13) (tC (V.int 0))) (tCons (tOp (rIxT K) (tVar 13) (tC (V.int 1))) tNil)))) (tCons (tOp (rIxT K) (tVar 8) (tC (V.int 0))) (tCons (tOp (rIxT K) (tVar 14) (tC (V.int 0))) tNil))) (tVar 5))) tNext)
      (tSeq (tAsg (tVar 13) (gTup K n3 (gCons (gName 6) (gCons (gName 7) (gCons (gName 9) gNil)))))
      (tRet (tOp (rEqD K1) (tCallT (tLamV T q ps bd5 sc5 cl5) q ps bd5 sc5 cl5 (TTerr c) fun E_ => tMakX (spSpa c CS) 2 CS E_ (tCons (tOp (rIxT K) (tVar 11) (tC (V.int 0))) (tCons (tOp (rIxT K) (tVar 12) (tC (V.int 0))) (tCons (tVar 6) (tCons (tVar 7) (tCons (tVar 9) tNil))))) (tCons (tOp (rIxT K) (tVar 8) (tC (V.int 0))) (tCons (tOp (rIxT K) (tVar 14) (tC (V.int 0))) tNil))) (tVar 5))))))))))))) D [some (.ref a), o1, o2, some (.ref r.p5), some (.ref L), o5, o6, o7, some (.ref r.pb), o9, some (.ref r.p2), some (.ref r.p1), some (.ref r.p3), some (.ref r.q), some (.ref r.pt)] GD := by
  subst hn
  -- the file
  (with_reducible refine r_seq ?_)
  refine asg_due (key := "data") (p := r.p2) (L := L) rfl FD.a2 FD.d2 FO.od rfl atD (fun M1 GE ee atE => ?_)
  (with_reducible refine r_gname ?_)
  have FE := FD.lt (LT.of ee)
  (with_reducible refine r_seq ?_)
  refine asg_due (key := "name") (p := r.p1) (L := M1) rfl FE.a1 FE.d1 FO.on.1 rfl atE (fun M2 GF ef atF => ?_)
  (with_reducible refine r_gname ?_)
  have FF := FE.lt (LT.of ef)
  have tF : Tabs T GF := LamX.Tabs.ext tD (ee.trans ef)
  have sF : Src GF a := sD.same (ee.trans ef)
  (with_reducible refine r_seq ?_)
  (with_reducible refine r_if ?_)
  (with_reducible refine r_test ?_)
  (with_reducible refine r_op ?_)
  refine call_deed (K := K) (vs := [r.v1, r.v2]) (zs := [r.x, r.y]) (lamV_k1 tF) (fun H1 Qa lt q => ta_ix rfl (FF.lt lt).a1 (ta_ix rfl (FF.lt lt).a2 (r_nil q))) (fun H1 Qa lt q => ta_ix rfl (FF.lt lt).ab (ta_ix rfl (FF.lt lt).at_ (r_nil q))) rfl FO.vd1
    (hsp_file FF.d1 FF.d2 FF.db FF.dt FO.on FO.od FO.ob FO.ou) (fun p8 GG eg tG atp => ?_)
  refine r_var rfl ?_
  refine r_neDue (d := Fr.due1 r) atp ((LT.ext eg).l _ _ atF) FO.ok1 (r_bl (r_iteF ?_))
  (with_reducible refine r_next ?_)
  have FG := FF.lt (LT.ext eg)
  have sG : Src GG a := Src.ext eg sF
  have atG := (LT.ext eg).l _ _ (ef _ _ (ee _ _ atD))
  -- the sparse file
  (with_reducible refine r_seq ?_)
  refine asg_due2 (key := "pieces") (p := r.p5) (L := L) rfl FG.a5 rfl (.tup FG.aq FG.dq) FO.op rfl atG (fun M3 GH eh atH => ?_)
  (with_reducible refine r_gname ?_)
  have FH := FG.lt (LT.of eh)
  (with_reducible refine r_seq ?_)
  refine asg_due (key := "size") (p := r.p3) (L := M3) rfl FH.a3 FH.d3 FO.oz rfl atH (fun M4 GI ei atI => ?_)
  (with_reducible refine r_gname ?_)
  have FI := FH.lt (LT.of ei)
  (with_reducible refine r_seq ?_)
  refine asg_due (key := "name") (p := r.p1) (L := M4) rfl FI.a1 FI.d1 FO.on.1 rfl atI (fun M5 GJ ej atJ => ?_)
  (with_reducible refine r_gname ?_)
  have FJ := FI.lt (LT.of ej)
  have tJ : Tabs T GJ := LamX.Tabs.ext tG (eh.trans (ei.trans ej))
  have sJ : Src GJ a := sG.same (eh.trans (ei.trans ej))
  clear atD atE atF atp atG atH atI FD FE FF FG FH FI sF sG tF tG tD sD
  have ly : r.ys.length ≤ 3 := by
    have h1 : r.ys.length = r.ts.length := FJ.dq.len
    have h2 : r.ts.length ≤ 3 := FO.lp
    omega
  have lt50 : r.ts.length ≤ 50 := Nat.le_trans FO.lp (by decide)
  have sp_ := hsp_spa (c := c) (C := CS) FJ.d1 FJ.d3 FJ.db FJ.dt FJ.dq FO.on FO.oz FO.ob FO.ou FO.op lt50
  have kw_ : ∀ {σ' : L2.St} {i j : Nat} (h1 : σ'[i]? = some (some (V.ref r.pb))) (h2 : σ'[j]? = some (some (V.ref r.pt))) (H1 : Hp) (Qa : List V → Hp → Prop), LT GJ H1 → Qa [r.x, r.y] H1 → tCons (tOp (rIxT K) (tVar i) (tC (V.int 0))) (tCons (tOp (rIxT K) (tVar j) (tC (V.int 0))) tNil) σ' H1 Qa :=
    fun h1 h2 H1 Qa lt q => ta_ix h1 (FJ.lt lt).ab (ta_ix h2 (FJ.lt lt).at_ (r_nil q))
  have end_ : ∀ p8 GK, ExtN GJ GK → Tabs T GK → GK p8 = some (.lst (dueV (Fr.due2 r))) → ∀ K2 : PySem.W.Frag, rEqD K2 (.ref p8) (.ref M5) GK D.rt := fun p8 GK ek tK atp K2 =>
    r_eqDue1 atp ((LT.ext ek).l _ _ atJ) FO.ok2 (fin GK ((ExtN.of (ee.trans ef)).trans (eg.trans ((ExtN.of (eh.trans (ei.trans ej))).trans ek))) (Src.ext ek sJ) tK)
  (with_reducible refine r_seq ?_)
  refine if_len rfl FJ.aq (fun e0 => ?_) (fun n0 => ?_)
  · have ey : r.ys = [] := List.length_eq_zero_iff.mp (by exact_mod_cast e0)
    (with_reducible refine r_ret ?_)
    (with_reducible refine r_op ?_)
    refine call_deed (K := K) (vs := r.v1 :: r.v3 :: r.ys) (zs := [r.x, r.y]) (lamV_k1 tJ) (fun H1 Qa lt q => ta_ix rfl (FJ.lt lt).a1 (ta_ix rfl (FJ.lt lt).a3 (r_nil (by rw [← ey]; exact q)))) (kw_ rfl rfl) rfl FO.vd2 sp_ (fun p8 GK ek tK atp => r_var rfl (end_ p8 GK ek tK atp _))
  (with_reducible refine r_seq ?_)
  refine if_len rfl FJ.aq (fun e1 => ?_) (fun n1 => ?_)
  · obtain ⟨y1, ey⟩ := List.length_eq_one_iff.mp (show r.ys.length = 1 by exact_mod_cast e1)
    (with_reducible refine r_ret ?_)
    (with_reducible refine r_op ?_)
    refine call_deed (K := K) (vs := r.v1 :: r.v3 :: r.ys) (zs := [r.x, r.y]) (lamV_k1 tJ) (fun H1 Qa lt q => ta_ix rfl (FJ.lt lt).a1 (ta_ix rfl (FJ.lt lt).a3 (r_cons (r_op (r_var rfl (r_c (r_ixT (SqT.of (FJ.lt lt).aq) (by simp only [ey]; rfl) (r_nil (by rw [ey] at q; exact q))))))))) (kw_ rfl rfl) rfl FO.vd2 sp_ (fun p8 GK ek tK atp => r_var rfl (end_ p8 GK ek tK atp _))
  (with_reducible refine r_seq ?_)
  refine if_len rfl FJ.aq (fun e2 => ?_) (fun n2 => ?_)
  · obtain ⟨y1, y2, ey⟩ := len2 (show r.ys.length = 2 by exact_mod_cast e2)
    (with_reducible refine r_ret ?_)
    (with_reducible refine r_op ?_)
    refine call_deed (K := K) (vs := r.v1 :: r.v3 :: r.ys) (zs := [r.x, r.y]) (lamV_k1 tJ) (fun H1 Qa lt q => ta_ix rfl (FJ.lt lt).a1 (ta_ix rfl (FJ.lt lt).a3 (r_cons (r_op (r_var rfl (r_c (r_ixT (SqT.of (FJ.lt lt).aq) (by simp only [ey]; rfl) (r_cons (r_op (r_var rfl (r_c (r_ixT (SqT.of (FJ.lt lt).aq) (by simp only [ey]; rfl) (r_nil (by rw [ey] at q; exact q)))))))))))))) (kw_ rfl rfl) rfl FO.vd2 sp_ (fun p8 GK ek tK atp => r_var rfl (end_ p8 GK ek tK atp _))
  obtain ⟨y1, y2, y3, ey⟩ := len3 (show r.ys.length = 3 by
    have h0 : r.ys.length ≠ 0 := fun e => n0 (by rw [e]; rfl)
    have h1 : r.ys.length ≠ 1 := fun e => n1 (by rw [e]; rfl)
    have h2 : r.ys.length ≠ 2 := fun e => n2 (by rw [e]; rfl)
    omega)
  (with_reducible refine r_seq ?_)
  (with_reducible refine r_asg ?_)
  refine r_var rfl ?_
  refine r_gtup (SqT.of (show GJ r.q = some (.tup [y1, y2, y3]) from ey ▸ FJ.aq)) rfl (r_gcons (r_gname (r_gcons (r_gname (r_gcons (r_gname (r_gnil ?_)))))))
  (with_reducible refine r_ret ?_)
  (with_reducible refine r_op ?_)
  refine call_deed (K := K) (vs := r.v1 :: r.v3 :: r.ys) (zs := [r.x, r.y]) (lamV_k1 tJ) (fun H1 Qa lt q => ta_ix rfl (FJ.lt lt).a1 (ta_ix rfl (FJ.lt lt).a3 (r_cons (r_var rfl (r_cons (r_var rfl (r_cons (r_var rfl (r_nil (by rw [ey] at q; exact q)))))))))) (kw_ rfl rfl) rfl FO.vd2 sp_ (fun p8 GK ek tK atp => r_var rfl (end_ p8 GK ek tK atp _))
end Th
namespace Th
open PySem PySem.Spec PyProof.Rows L2
local macro_rules | `(tactic| walk_at "lk") => `(tactic| first
  | assumption
  | exact upd_same
  | (refine upd_old (by assumption) ?_; walk_at "lk")
  | (refine upd_diff (by assumption) ?_; walk_at "lk")
  | (refine upd_diff (Ne.symm (by assumption)) ?_; walk_at "lk"))
local macro_rules | `(tactic| walk_at "cnd") => `(tactic| first
  | omega
  | (refine ⟨by omega, by omega⟩)
  | (refine ⟨by omega, by omega, by omega⟩)
  | (refine .inl ⟨by omega, by omega⟩)
  | (refine .inr ⟨by omega, by omega⟩)
  | (exact (show CPow _ _ from ⟨by decide, by decide, by omega⟩))
  | decide +kernel
  | (unfold CMulW; decide +kernel)
  | (exact wide_div (b := 64) (by omega) (by omega) (by decide) (by decide)))
local macro_rules | `(tactic| walk_at "rd1") => `(tactic| first
  | (with_reducible refine r_seq ?_)
  | (with_reducible refine r_asg ?_)
  | (with_reducible refine r_ret ?_)
  | (with_reducible refine r_if ?_)
  | (with_reducible refine r_gname ?_)
  | ((with_reducible refine' r_var ?hv ?_); (case hv => exact rfl))
  | (with_reducible refine r_c ?_)
  | (with_reducible refine r_op ?_)
  | (with_reducible refine r_I0 ?_)
  | ((with_reducible refine r_I ?hc ?_); (case hc => walk_at "cnd"))
  | (with_reducible refine r_test ?_)
  | (with_reducible refine r_tB ?_)
  | (with_reducible refine r_bl ?_)
  | (with_reducible refine r_not ?_)
  | (with_reducible refine r_and ?_)
  | (with_reducible refine r_or ?_)
  | (with_reducible refine r_ifE ?_)
  | (with_reducible refine r_notV ?_)
  | (with_reducible refine r_andV ?_)
  | (with_reducible refine r_orV ?_)
  | (with_reducible refine r_chain ?_)
  | (with_reducible refine r_cb ?_)
  | (with_reducible refine r_call ?_)
  | (with_reducible refine r_callN ?_)
  | (with_reducible refine r_nil ?_)
  | (with_reducible refine r_cons ?_)
  | ((with_reducible refine r_lst ?_))
  | ((with_reducible refine r_tup ?_))
  | ((with_reducible refine r_new ?_ ?_); (exact Nat.le_of_ble_eq_true rfl); (intro p hp))
  | (with_reducible refine r_rInt1 ?_)
  | (with_reducible refine r_rIntB ?_)
  | (with_reducible refine r_rAbs ?_)
  | (with_reducible refine r_rMin2 ?_)
  | (with_reducible refine r_rMax2 ?_)
  | ((with_reducible refine r_rLenZ ?hz ?_); (case hz => first | assumption | exact Nat.le_of_ble_eq_true rfl | (refine Nat.le_trans ?_ (by decide : 100000 ≤ sizeLine); omega)))
  | ((with_reducible refine r_addZ ?hz ?_); (case hz => (refine Nat.le_trans ?_ (by decide : 100000 ≤ sizeLine); first | omega | (simp only [Str.length] at *; simp; omega))))
  | ((with_reducible refine r_mulZ ?hz ?h0 ?h1 ?_); (case hz => first | omega | exact Nat.le_of_ble_eq_true rfl); (case h0 => omega); (case h1 => omega))
  | ((with_reducible refine' r_rLenQ ?h1 ?_); (case h1 => first | (exact .inl (by assumption)) | (exact .inr (by assumption)) | (exact .inl (SqL.of (by walk_at "lk"))) | (exact .inr (SqT.of (by walk_at "lk")))))
  | ((with_reducible refine r_eq ?hs ?_); (case hs => exact rfl))
  | ((with_reducible refine r_ne ?hs ?_); (case hs => exact rfl))
  | (with_reducible refine r_inC ?_)
  | ((with_reducible refine' r_cat ?h1 ?h2 ?h3 ?_); (case h1 => walk_at "lk"); (case h2 => walk_at "lk"); (case h3 => exact Nat.le_of_ble_eq_true rfl); (intro p hp))
  | ((with_reducible refine' r_rep ?h1 ?h2 ?h3 ?h4 ?_); (case h1 => walk_at "lk"); (case h2 => omega); (case h3 => omega); (case h4 => exact Nat.le_of_ble_eq_true rfl); (intro p hp))
  | ((with_reducible refine' r_append ?h1 ?h2 ?_); (case h1 => walk_at "lk"); (case h2 => first | exact (show _ + 1 ≤ sizeLine from Nat.le_of_ble_eq_true rfl) | exact Nat.lt_of_le_of_lt (by omega : _ ≤ 100000) (by decide)))
  | (with_reducible refine r_bm ?_)
  | ((with_reducible refine' r_tyL ?h1 ?_); (case h1 => walk_at "lk"))
  | ((with_reducible refine' r_ixL ?h1 ?h2 ?_); (case h1 => first | assumption | exact SqL.of (by walk_at "lk")); (case h2 => exact rfl))
  | ((with_reducible refine' r_ixT ?h1 ?h2 ?_); (case h1 => first | assumption | exact SqT.of (by walk_at "lk")); (case h2 => exact rfl))
  | (with_reducible refine r_gsub ?_)
  | ((with_reducible refine' r_setL ?h1 ?h2 ?_); (case h1 => walk_at "lk"); (case h2 => exact rfl))
  | (with_reducible refine r_un ?_)
  | (with_reducible refine r_neg ?_)
  | (with_reducible refine r_iteT ?_)
  | (with_reducible refine r_iteNT ?_)
  | (with_reducible refine r_iteNF ?_)
  | (with_reducible refine r_iteF ?_)
  | (with_reducible refine r_next ?_)
  | (with_reducible refine r_drop ?_)
  | (with_reducible refine r_cont ?_)
  | (with_reducible refine r_brk ?_))
local macro_rules | `(tactic| walk_at "ty") => `(tactic| first
  | assumption
  | exact .base (.int _)
  | exact .base (.str _)
  | exact .base (.bl _)
  | exact .base .non
  | exact .byt _
  | exact .base (.lst (by walk_at "lk"))
  | exact .base (.tup (by walk_at "lk")))
local macro_rules | `(tactic| walk_at "rd2") => `(tactic| first
  | walk_at "rd1"
  | ((with_reducible refine' r_isi true ?ht ?hk ?_); (case ht => walk_at "ty"); (case hk => first | assumption | decide +kernel))
  | ((with_reducible refine' r_isi false ?ht ?hk ?_); (case ht => walk_at "ty"); (case hk => first | assumption | decide +kernel))
  | ((with_reducible refine' r_isiT2 true true ?hT ?ht ?hk ?hk2 ?_); (case hT => walk_at "lk"); (case ht => walk_at "ty"); (case hk => decide +kernel); (case hk2 => decide +kernel))
  | ((with_reducible refine' r_isiT2 true false ?hT ?ht ?hk ?hk2 ?_); (case hT => walk_at "lk"); (case ht => walk_at "ty"); (case hk => decide +kernel); (case hk2 => decide +kernel))
  | ((with_reducible refine' r_isiT2 false true ?hT ?ht ?hk ?hk2 ?_); (case hT => walk_at "lk"); (case ht => walk_at "ty"); (case hk => decide +kernel); (case hk2 => decide +kernel))
  | ((with_reducible refine' r_isiT2 false false ?hT ?ht ?hk ?hk2 ?_); (case hT => walk_at "lk"); (case ht => walk_at "ty"); (case hk => decide +kernel); (case hk2 => decide +kernel))
  | (with_reducible refine r_iteNT ?_)
  | ((show (if (!true) = true then _ else _)); refine r_iteNT ?_)
  | (with_reducible refine r_r1 ?_)
  | (with_reducible refine r_maks ?_)
  | (with_reducible refine r_sfld ?_)
  | ((with_reducible refine' r_sfldE ?h1 ?h2 ?h3 ?h4 ?_); (case h1 => walk_at "lk"); (case h2 => assumption); (case h3 => assumption); (case h4 => exact (show _ + 1 ≤ 1000 from Nat.le_of_ble_eq_true rfl)))
  | (with_reducible refine r_fld ?_)
  | (with_reducible refine r_join ?_)
  | (with_reducible refine r_jcons ?_)
  | (with_reducible refine r_jnil ?_)
  | ((with_reducible refine r_rLenY ?hz ?_); (case hz => first | assumption | (refine Nat.le_trans ?_ (by decide : 100000 ≤ sizeLine); omega)))
  | (with_reducible refine r_par ?_)
  | (with_reducible refine r_pair ?_)
  | (with_reducible refine r_par3 ?_)
  | (with_reducible refine r_trip ?_)
  | ((with_reducible refine' r_gtup ?h1 ?h2 ?_); (case h1 => first | assumption | exact SqT.of (by walk_at "lk")); (case h2 => exact rfl))
  | (with_reducible refine r_gcons ?_)
  | (with_reducible refine r_gnil ?_)
  | ((with_reducible refine' r_slL ?h1 ?_); (case h1 => first | assumption | exact SqL.of (by walk_at "lk")); (intro p hp))
  | (with_reducible refine r_iTup ?_)
  | ((with_reducible refine' r_tupE ?h1 ?_); (case h1 => first | assumption | exact SqT.of (by walk_at "lk")))
  | (with_reducible refine r_m1 ?_)
  | (with_reducible refine r_isZ ?_)
  | (with_reducible refine r_sl ?_)
  | (with_reducible refine r_noPart ?_)
  | (with_reducible refine r_part ?_)
  | (with_reducible refine r_partE ?_)
  | ((with_reducible refine r_slS ?hz ?_); (case hz => first | assumption | (refine Nat.le_trans ?_ (by decide : 100000 ≤ sizeLine); omega)))
  | ((with_reducible refine' r_inT ?h1 ?h2 ?h3 ?_); (case h1 => first | assumption | (exact SqT.of (by walk_at "lk"))); (case h2 => exact rfl); (case h3 => exact rfl))
  | ((with_reducible refine' r_inL ?h1 ?h2 ?h3 ?_); (case h1 => first | assumption | (exact SqL.of (by walk_at "lk"))); (case h2 => exact rfl); (case h3 => exact rfl))
  | (with_reducible refine r_lc ?_)
  | (with_reducible refine r_for ?_)
  | (with_reducible refine r_iStr ?_)
  | (with_reducible refine r_strE ?_)
  | (with_reducible refine r_iList ?_)
  | ((with_reducible refine' r_listE ?h1 ?_); (case h1 => first | assumption | exact SqL.of (by walk_at "lk")))
  | (with_reducible refine r_iRng1 ?_)
  | ((with_reducible refine' r_rngE ?h0 ?h1 ?_); (case h0 => first | omega | (split <;> omega)); (case h1 => first | omega | (split <;> omega))))
local macro_rules | `(tactic| walk_at "rd") => `(tactic| (repeat walk_at "rd2"))
local macro_rules | `(tactic| walk_at "st") => `(tactic| (repeat (first
  | (with_reducible refine r_gname ?_)
  | (with_reducible refine r_next ?_)
  | (with_reducible refine r_seq ?_)
  | (with_reducible refine r_asg ?_)
  | (with_reducible refine r_ret ?_)
  | (with_reducible refine r_for ?_)
  | (with_reducible refine r_iRng1 ?_)
  | (with_reducible refine r_iList ?_)
  | (with_reducible refine r_cons ?_)
  | (with_reducible refine r_par ?_)
  | (with_reducible refine r_par3 ?_))))
open LamX (Tabs TabB ExtN)
section
variable {P : Program} {w : World} {K : PySem.W.Frag} {mg : Str → Option Value} {base : Heap}
theorem walk_files {A : Around} {cA PA : Addr} {outer : List Env} {f : Addr} {s : Shared} {H : Hp} {vs : List V} {Q : VK} {E : XK} {T : List (Addr × Str)} {c : Ec} {CF CS : Addr} (TB : TabB base mg cA PA)
    (inT : (PA, (envOfC "_law_files_right" (defScope s__law_files_right) s.heap.objs.size f (.ref cA)).qual ++ "<lambda>") ∈ T) (one : ∀ p ∈ T, p.1 = PA → p.2 = (envOfC "_law_files_right" (defScope s__law_files_right) s.heap.objs.size f (.ref cA)).qual ++ "<lambda>")
    (hr : Room 16 (A.deeper (envOfC "_law_files_right" (defScope s__law_files_right) s.heap.objs.size f (.ref cA)))) (gd : (A.deeper (envOfC "_law_files_right" (defScope s__law_files_right) s.heap.objs.size f (.ref cA))).guards = some [])
    (e_error : CalL P w K mg base 14 "_law_error" (TTerr c)) (m1 : mg "repr" = none) (m2 : mg "len" = none)
    (mk_File : MakX P w K mg base 11 "File" CF ["mode", "time"] (pX (spFileX c CF))) (mk_Spa : MakX P w K mg base 11 "Sparse" CS ["mode", "time"] (spSpa c CS))
    (c_blob : CalT P w K mg base 4 "blob" spBlob)
    (c_pick : CalT P w K mg base 4 "_law_pick" spPick) (c_wrong : CalT P w K mg base 5 "_law_wrong_names" spWrong) (c_rst : CalT P w K mg base 6 "_law_random_stamps" spRSt) (g_sdue : CalG P w K mg base 4 "_law_stamps_due" spSDue) (h : spLinks T vs H Q E) :
    ∃ t, PSs (cxOf CX0 P w K mg base N__law_files_right "_law_files_right" (defScope s__law_files_right) f (.ref cA) A outer s H E).nox (defBody s__law_files_right) t ∧ t { nx := fun _ H' => Q .non H', rt := Q } (start N__law_files_right vs) H := by
  obtain ⟨a, rfl, hs, tabs, q⟩ := h
  have code : (Value.ref cA) = .ref cA := rfl
  have hu := hu_of hr
  have hu64 : (A.deeper (envOfC "_law_files_right" (defScope s__law_files_right) s.heap.objs.size f (.ref cA))).units + 64 < cLine := by have := hr.un; omega
  have nd := sc__law_files_right.nd
  refine ⟨_, (pss_cons (ps_set (i := 11) nd rfl (Or.inr rfl) (pe_cc c_pick hr (by omega) (by rfl) (pa_cons (pv 0) (pa_cons (pe_lst (pa_cons pe_str (pa_cons pe_str (pa_cons (pe_op op_mulS pe_str pe_int) pa_nil)))) (pa_cons (pe_cc0 c_wrong hr (by omega) (by rfl)) pa_nil)))))
      (pss_cons (ps_set (i := 10) nd rfl (Or.inr rfl) (pe_cc c_pick hr (by omega) (by rfl) (pa_cons (pv 0) (pa_cons (pe_lst (pa_cons (pe_cc c_blob hr (by omega) (by rfl) (pa_cons (pe_lst pa_nil) pa_nil)) (pa_cons (pe_cc c_blob hr (by omega) (by rfl) (pa_cons (pe_op op_rep (pe_lst (pa_cons pe_int pa_nil)) pe_int) pa_nil)) pa_nil))) (pa_cons (pe_lst (pa_cons (pe_cc c_blob hr (by omega) (by rfl) (pa_cons (pe_op op_rep (pe_lst (pa_cons pe_int pa_nil)) pe_int) pa_nil)) (pa_cons pe_non (pa_cons pe_str (pa_cons (pe_lst (pa_cons pe_int pa_nil)) (pa_cons pe_int (pa_cons (pe_tup (pa_cons pe_int pa_nil)) pa_nil))))))) pa_nil)))))
      (pss_cons (ps_set (i := 12) nd rfl (Or.inr rfl) (pe_cc c_pick hr (by omega) (by rfl) (pa_cons (pv 0) (pa_cons (pe_lst (pa_cons pe_int (pa_cons pe_int pa_nil))) (pa_cons (pe_lst (pa_cons (pe_un un_neg pe_int) (pa_cons pe_int (pa_cons pe_bl (pa_cons pe_non (pa_cons pe_str (pa_cons (pe_lst (pa_cons pe_int pa_nil)) pa_nil))))))) pa_nil)))))
      (pss_cons (ps_set (i := 1) nd rfl (Or.inl rfl) (pe_tup (pa_cons pe_int (pa_cons (pe_cc c_blob hr (by omega) (by rfl) (pa_cons (pe_lst (pa_cons pe_int (pa_cons pe_int pa_nil))) pa_nil)) pa_nil))))
      (pss_cons (ps_set (i := 2) nd rfl (Or.inl rfl) (pe_lst (pa_cons (pe_tup (pa_cons (pe_tup (pa_cons pe_int (pa_cons (pe_cc c_blob hr (by omega) (by rfl) (pa_cons (pe_lst pa_nil) pa_nil)) pa_nil))) pa_nil)) (pa_cons (pe_tup (pa_cons (pe_tup (pa_cons pe_int (pa_cons (pe_cc c_blob hr (by omega) (by rfl) (pa_cons (pe_lst (pa_cons pe_int (pa_cons pe_int pa_nil))) pa_nil)) pa_nil))) pa_nil)) (pa_cons (pe_tup (pa_cons (pv 1) (pa_cons (pv 1) pa_nil))) (pa_cons (pe_tup (pa_cons (pv 1) (pa_cons (pe_tup (pa_cons pe_int (pa_cons (pe_cc c_blob hr (by omega) (by rfl) (pa_cons (pe_lst (pa_cons pe_int pa_nil)) pa_nil)) pa_nil))) pa_nil))) (pa_cons (pe_tup (pa_cons (pe_tup (pa_cons (pe_un un_neg pe_int) (pa_cons (pe_cc c_blob hr (by omega) (by rfl) (pa_cons (pe_lst (pa_cons pe_int pa_nil)) pa_nil)) pa_nil))) pa_nil)) pa_nil)))))))
      (pss_cons (ps_set (i := 2) nd rfl (Or.inl rfl) (pe_op op_cat (pv 2) (pe_lst (pa_cons (pe_tup (pa_cons (pe_lst (pa_cons pe_int (pa_cons (pe_ix (ix_tupK K) (pv 1) pe_int (fun _ _ => rfl)) pa_nil))) pa_nil)) pa_nil))))
      (pss_cons (ps_set (i := 2) nd rfl (Or.inl rfl) (pe_op op_cat (pv 2) (pe_lst (pa_cons (pe_tup (pa_cons (pe_tup (pa_cons pe_int (pa_cons (pe_lst (pa_cons pe_int pa_nil)) pa_nil))) pa_nil)) (pa_cons (pe_tup (pa_cons (pe_tup (pa_cons pe_bl (pa_cons (pe_cc c_blob hr (by omega) (by rfl) (pa_cons (pe_lst (pa_cons pe_int pa_nil)) pa_nil)) pa_nil))) pa_nil)) (pa_cons (pe_tup (pa_cons pe_non pa_nil)) (pa_cons (pe_tup (pa_cons (pe_tup (pa_cons pe_int (pa_cons (pe_cc c_blob hr (by omega) (by rfl) (pa_cons (pe_lst (pa_cons pe_int pa_nil)) pa_nil)) (pa_cons pe_int pa_nil)))) pa_nil)) (pa_cons (pe_tup (pa_cons (pv 1) (pa_cons (pe_tup (pa_cons pe_int (pa_cons (pe_cc c_blob hr (by omega) (by rfl) (pa_cons (pe_lst (pa_cons pe_int pa_nil)) pa_nil)) pa_nil))) pa_nil))) pa_nil))))))))
      (pss_cons (ps_set (i := 3) nd rfl (Or.inl rfl) (pe_cc c_pick hr (by omega) (by rfl) (pa_cons (pv 0) (pa_cons (pe_lst (pa_cons (pe_tup pa_nil) (pa_cons (pe_tup (pa_cons (pv 1) pa_nil)) (pa_cons (pe_tup (pa_cons (pe_tup (pa_cons pe_int (pa_cons (pe_cc c_blob hr (by omega) (by rfl) (pa_cons (pe_lst (pa_cons pe_int pa_nil)) pa_nil)) pa_nil))) (pa_cons (pv 1) (pa_cons (pe_tup (pa_cons pe_int (pa_cons (pe_cc c_blob hr (by omega) (by rfl) (pa_cons (pe_lst (pa_cons pe_int (pa_cons pe_int pa_nil))) pa_nil)) pa_nil))) pa_nil)))) pa_nil)))) (pa_cons (pv 2) pa_nil)))))
      (pss_cons (ps_if (PW.pt (pw_and (pt_cmpR (op_eqD hu64) (pe_ix (ix_tupK K) (pv 12) pe_int (fun _ _ => rfl)) pe_int (nomark _)) (pw_and1 (pt_cmpR (op_eq8 8 (byteArr [1, 2]) hu64) (pe_ix (ix_tupK K) (pv 3) pe_int (fun _ _ => rfl)) (pe_tup (pa_cons (pe_tup (pa_cons pe_int (pa_cons (pe_cc c_blob hr (by omega) (by rfl) (pa_cons (pe_lst (pa_cons pe_int (pa_cons pe_int pa_nil))) pa_nil)) pa_nil))) pa_nil)) (nomark _)))))
        (pss_one (ps_set (i := 3) nd rfl (Or.inl rfl) (pe_tup (pa_cons (pe_ix (ix_tupK K) (pv 3) pe_int (fun _ _ => rfl)) (pa_cons pe_bl pa_nil)))))
        pss_nil)
      (pss_cons (ps_asg (pe_cc c_rst hr (by omega) (by rfl) (pa_cons (pv 0) pa_nil)) (pg_tupK K (pg_tup rfl (pgs_cons (pg_name (i := 8) nd rfl (Or.inr rfl)) (pgs_cons (pg_name (i := 14) nd rfl (Or.inr rfl)) pgs_nil)))))
      (pss_cons (ps_asg (pe_tup (pa_cons (pe_ccG g_sdue gd hr (by omega) (by rfl) (pa_cons (pv 8) (pa_cons (pv 14) pa_nil))) (pa_cons (pe_ix (ix_tupK K) (pv 3) pe_int (fun _ _ => rfl)) pa_nil))) (pg_tupK K (pg_tup rfl (pgs_cons (pg_name (i := 4) nd rfl (Or.inl rfl)) (pgs_cons (pg_name (i := 13) nd rfl (Or.inr rfl)) pgs_nil)))))
      (pss_cons (ps_set (i := 5) nd rfl (Or.inl rfl) (pe_ifExp (pt_val (pe_ix (ix_tupK K) (pv 10) pe_int (fun _ _ => rfl))) (pe_lst (pa_cons pe_str (pa_cons (pe_callB (call_rReprT gd hu64) (by rfl) (by assumption) (by decide +kernel) (pa_cons (pe_ix (ix_tupK K) (pv 10) pe_int (fun _ _ => rfl)) pa_nil)) (pa_cons pe_bl pa_nil)))) (pv 4)))
      (pss_cons (ps_set (i := 5) nd rfl (Or.inl rfl) (pe_ifExp (pt_val (pe_ix (ix_tupK K) (pv 11) pe_int (fun _ _ => rfl))) (pe_lst (pa_cons pe_str (pa_cons (pe_callB (call_rReprT gd hu64) (by rfl) (by assumption) (by decide +kernel) (pa_cons (pe_ix (ix_tupK K) (pv 11) pe_int (fun _ _ => rfl)) pa_nil)) (pa_cons pe_bl pa_nil)))) (pv 5)))
      (pss_cons (ps_if (pt_cmpR (op_neD hu64) (pe_callTL (k2 := 12) e_error hr (by omega) (by omega) gd (by rfl) TB code inT one (LamX.lamS_by (by show LamX.lamSB (defScope s__law_files_right) _ = true; decide +kernel)) rfl (fun _ _ _ _ _ => rfl) (fun A_ o_ s_ H_ E_ f_ c_ hr gd => (pe_mkx mk_File hr (by omega) (by rfl) (passes_call (takes_of rfl rfl rfl rfl) (fun _ _ _ _ h => h)) (pa_cons (pe_ix (ix_tupK K) (pv 11) pe_int (fun _ _ => rfl)) (pa_cons (pe_ix (ix_tupK K) (pv 10) pe_int (fun _ _ => rfl)) pa_nil)) (pk_cons (pe_ix (ix_tupK K) (pv 8) pe_int (fun _ _ => rfl)) (pk_cons (pe_ix (ix_tupK K) (pv 14) pe_int (fun _ _ => rfl)) pk_nil))))) (pv 5) (nomark _))
        (pss_one (ps_ret pe_bl))
        pss_nil)
      (pss_cons (ps_set (i := 5) nd rfl (Or.inl rfl) (pe_ifExp (pt_val (pe_ix (ix_tupK K) (pv 3) pe_int (fun _ _ => rfl))) (pe_lst (pa_cons pe_str (pa_cons (pe_callB (call_rReprT gd hu64) (by rfl) (by assumption) (by decide +kernel) (pa_cons (pv 13) pa_nil)) (pa_cons pe_bl pa_nil)))) (pv 4)))
      (pss_cons (ps_set (i := 5) nd rfl (Or.inl rfl) (pe_ifExp (pt_val (pe_ix (ix_tupK K) (pv 12) pe_int (fun _ _ => rfl))) (pe_lst (pa_cons pe_str (pa_cons (pe_callB (call_rReprT gd hu64) (by rfl) (by assumption) (by decide +kernel) (pa_cons (pe_ix (ix_tupK K) (pv 12) pe_int (fun _ _ => rfl)) pa_nil)) (pa_cons pe_bl pa_nil)))) (pv 5)))
      (pss_cons (ps_set (i := 5) nd rfl (Or.inl rfl) (pe_ifExp (pt_val (pe_ix (ix_tupK K) (pv 11) pe_int (fun _ _ => rfl))) (pe_lst (pa_cons pe_str (pa_cons (pe_callB (call_rReprT gd hu64) (by rfl) (by assumption) (by decide +kernel) (pa_cons (pe_ix (ix_tupK K) (pv 11) pe_int (fun _ _ => rfl)) pa_nil)) (pa_cons pe_bl pa_nil)))) (pv 5)))
      (pss_cons (ps_if (pt_cmpR op_eq (pe_callB (call_lenK K) (by rfl) (by assumption) (by decide +kernel) (pa_cons (pv 13) pa_nil)) pe_int (nomark _))
        (pss_one (ps_ret (pe_cmpR (op_eqD hu64) (pe_callTL (k2 := 12) e_error hr (by omega) (by omega) gd (by rfl) TB code inT one (LamX.lamS_by (by show LamX.lamSB (defScope s__law_files_right) _ = true; decide +kernel)) rfl (fun _ _ _ _ _ => rfl) (fun A_ o_ s_ H_ E_ f_ c_ hr gd => (pe_mkx mk_Spa hr (by omega) (by rfl) (passes_call (takes_of rfl rfl rfl rfl) (fun _ _ _ _ h => h)) (pa_cons (pe_ix (ix_tupK K) (pv 11) pe_int (fun _ _ => rfl)) (pa_cons (pe_ix (ix_tupK K) (pv 12) pe_int (fun _ _ => rfl)) pa_nil)) (pk_cons (pe_ix (ix_tupK K) (pv 8) pe_int (fun _ _ => rfl)) (pk_cons (pe_ix (ix_tupK K) (pv 14) pe_int (fun _ _ => rfl)) pk_nil))))) (pv 5) (nomark _))))
        pss_nil)
      (pss_cons (ps_if (pt_cmpR op_eq (pe_callB (call_lenK K) (by rfl) (by assumption) (by decide +kernel) (pa_cons (pv 13) pa_nil)) pe_int (nomark _))
        (pss_one (ps_ret (pe_cmpR (op_eqD hu64) (pe_callTL (k2 := 12) e_error hr (by omega) (by omega) gd (by rfl) TB code inT one (LamX.lamS_by (by show LamX.lamSB (defScope s__law_files_right) _ = true; decide +kernel)) rfl (fun _ _ _ _ _ => rfl) (fun A_ o_ s_ H_ E_ f_ c_ hr gd => (pe_mkx mk_Spa hr (by omega) (by rfl) (passes_call (takes_of rfl rfl rfl rfl) (fun _ _ _ _ h => h)) (pa_cons (pe_ix (ix_tupK K) (pv 11) pe_int (fun _ _ => rfl)) (pa_cons (pe_ix (ix_tupK K) (pv 12) pe_int (fun _ _ => rfl)) (pa_cons (pe_ix (ix_tupK K) (pv 13) pe_int (fun _ _ => rfl)) pa_nil))) (pk_cons (pe_ix (ix_tupK K) (pv 8) pe_int (fun _ _ => rfl)) (pk_cons (pe_ix (ix_tupK K) (pv 14) pe_int (fun _ _ => rfl)) pk_nil))))) (pv 5) (nomark _))))
        pss_nil)
      (pss_cons (ps_if (pt_cmpR op_eq (pe_callB (call_lenK K) (by rfl) (by assumption) (by decide +kernel) (pa_cons (pv 13) pa_nil)) pe_int (nomark _))
        (pss_one (ps_ret (pe_cmpR (op_eqD hu64) (pe_callTL (k2 := 12) e_error hr (by omega) (by omega) gd (by rfl) TB code inT one (LamX.lamS_by (by show LamX.lamSB (defScope s__law_files_right) _ = true; decide +kernel)) rfl (fun _ _ _ _ _ => rfl) (fun A_ o_ s_ H_ E_ f_ c_ hr gd => (pe_mkx mk_Spa hr (by omega) (by rfl) (passes_call (takes_of rfl rfl rfl rfl) (fun _ _ _ _ h => h)) (pa_cons (pe_ix (ix_tupK K) (pv 11) pe_int (fun _ _ => rfl)) (pa_cons (pe_ix (ix_tupK K) (pv 12) pe_int (fun _ _ => rfl)) (pa_cons (pe_ix (ix_tupK K) (pv 13) pe_int (fun _ _ => rfl)) (pa_cons (pe_ix (ix_tupK K) (pv 13) pe_int (fun _ _ => rfl)) pa_nil)))) (pk_cons (pe_ix (ix_tupK K) (pv 8) pe_int (fun _ _ => rfl)) (pk_cons (pe_ix (ix_tupK K) (pv 14) pe_int (fun _ _ => rfl)) pk_nil))))) (pv 5) (nomark _))))
        pss_nil)
      (pss_cons (ps_asg (pv 13) (pg_tupK K (pg_tup rfl (pgs_cons (pg_name (i := 6) nd rfl (Or.inr rfl)) (pgs_cons (pg_name (i := 7) nd rfl (Or.inr rfl)) (pgs_cons (pg_name (i := 9) nd rfl (Or.inr rfl)) pgs_nil))))))
      (pss_one (ps_ret (pe_cmpR (op_eqD hu64) (pe_callTL (k2 := 12) e_error hr (by omega) (by omega) gd (by rfl) TB code inT one (LamX.lamS_by (by show LamX.lamSB (defScope s__law_files_right) _ = true; decide +kernel)) rfl (fun _ _ _ _ _ => rfl) (fun A_ o_ s_ H_ E_ f_ c_ hr gd => (pe_mkx mk_Spa hr (by omega) (by rfl) (passes_call (takes_of rfl rfl rfl rfl) (fun _ _ _ _ h => h)) (pa_cons (pe_ix (ix_tupK K) (pv 11) pe_int (fun _ _ => rfl)) (pa_cons (pe_ix (ix_tupK K) (pv 12) pe_int (fun _ _ => rfl)) (pa_cons (pv 6) (pa_cons (pv 7) (pa_cons (pv 9) pa_nil))))) (pk_cons (pe_ix (ix_tupK K) (pv 8) pe_int (fun _ _ => rfl)) (pk_cons (pe_ix (ix_tupK K) (pv 14) pe_int (fun _ _ => rfl)) pk_nil))))) (pv 5) (nomark _))))))))))))))))))))))))), ?_⟩
  walk_at "rd"
  rename_i g1 hg1
  refine ⟨rfl, fun w1 xs1 H1 hw1 e1 at1 z1 z2 all1 => ?_⟩
  walk_at "rd"
  have n_g1 := hs.ne hg1
  have s1 : Src H1 a := (hs.new hg1).same e1
  have n_w1 : w1 ≠ a := (hs.new hg1).ne hw1
  refine sp_pick s1 (e1 _ _ upd_same) at1 ⟨Nat.le_of_ble_eq_true rfl, Nat.le_of_ble_eq_true rfl⟩ ⟨z1, z2⟩ n_g1 n_w1 (fun p1 v1 f1 H2 hp1 pk1 in1 in2 s2 b2 => ?_)
  have b02 : But a H H2 := But.new hg1 ((Same.but e1).trans b2)
  have hp1H : H p1 = none := none_upd (none_same e1 hp1)
  have P1 : Pk (fresh H H2) Tr.nameB p1 v1 f1 := by
    refine ⟨fresh_new hp1H pk1, ?_⟩
    cases f1 with
    | false =>
      have z := in1 rfl
      simp only [List.mem_cons, List.not_mem_nil, or_false] at z
      rcases z with rfl | rfl | rfl
      · exact val_mk (.str "a") (.str _) (by decide +kernel)
      · exact val_mk (.str ".") (.str _) (by decide +kernel)
      · exact val_mk (.str (repZ "b" 250)) (.str _) (by decide +kernel)
    | true => exact val_up (hs.new hg1) (fun b hb => none_upd hb) b2 (all1 v1 (in2 rfl))
  clear in1 in2 all1
  have t2 : Tabs T H2 := Tabs.but tabs hs b02
  -- the data
  (with_reducible refine r_gname ?_)
  (with_reducible refine r_seq ?_)
  (with_reducible refine r_asg ?_)
  refine pick_data (K := K) rfl s2 (fun v G d => ?_)
  obtain ⟨p2, v2, f2, rfl, hp2, P2, s3, b23⟩ := d
  (with_reducible refine r_gname ?_)
  have t3 : Tabs T G := Tabs.but t2 s2 b23
  -- the size
  (with_reducible refine r_seq ?_)
  (with_reducible refine r_asg ?_)
  refine pick_size (K := K) rfl s3 (fun v G4 d => ?_)
  obtain ⟨p3, v3, f3, rfl, hp3, P3, in3, odd3, s4, b34⟩ := d
  (with_reducible refine r_gname ?_)
  have t4 : Tabs T G4 := Tabs.but t3 s3 b34
  have b04 : But a H G4 := (b02.trans b23).trans b34
  have up4 : ∀ b, G4 b = none → H b = none := fun b hb => none_but b04 hs s4 hb
  -- the pieces
  (with_reducible refine r_seq ?_)
  (with_reducible refine r_asg ?_)
  refine mk_one (H0 := H) up4 (fun po xo yo G5 e5 ho dy5 dO => ?_)
  (with_reducible refine r_gname ?_)
  have up5 : ∀ b, G5 b = none → H b = none := fun b hb => up4 b (none_same e5 hb)
  (with_reducible refine r_seq ?_)
  (with_reducible refine r_asg ?_)
  refine mk_bad1 (H0 := H) (p := po) rfl up5 dO (fun l6 xs6 G6 e6 hl6 d6 => ?_)
  (with_reducible refine r_gname ?_)
  have up6 : ∀ b, G6 b = none → H b = none := fun b hb => up5 b (none_same e6 hb)
  (with_reducible refine r_seq ?_)
  (with_reducible refine r_asg ?_)
  refine mk_bad2 (H0 := H) (p := po) rfl rfl up6 (e6 _ _ ho) (Dn.same (fresh_up e6) dy5) hl6 d6 (fun l7 xs7 G7 e7 hl7 d7 => ?_)
  (with_reducible refine r_gname ?_)
  have up7 : ∀ b, G7 b = none → H b = none := fun b hb => up6 b (none_same e7 hb)
  (with_reducible refine r_seq ?_)
  (with_reducible refine r_asg ?_)
  refine mk_bad3 (H0 := H) (p := po) rfl rfl up7 (Dn.same (fresh_up (e6.trans e7)) dO) hl7 d7 (fun l8 xs8 G8 e8 hl8 d8 => ?_)
  (with_reducible refine r_gname ?_)
  have up8 : ∀ b, G8 b = none → H b = none := fun b hb => up7 b (none_same e8 hb)
  have e48 : Same G4 G8 := e5.trans (e6.trans (e7.trans e8))
  have s8 : Src G8 a := s4.same e48
  (with_reducible refine r_seq ?_)
  (with_reducible refine r_asg ?_)
  refine pick_pc (H0 := H) rfl rfl rfl hs s8 up8 (Dn.same (fresh_up (e6.trans (e7.trans e8))) dO) hl8 d8 (fun p4 q4 f4 ys ts G9 pc hp4 s9 b89 => ?_)
  (with_reducible refine r_gname ?_)
  have b49 : But a G4 G9 := (Same.but e48).trans b89
  have t9 : Tabs T G9 := Tabs.but t4 s4 b49
  clear hl6 d6 hl7 d7 hl8 d8 dO dy5 ho up5 up6 up7 up8
  -- all of it at G9
  have b09 : But a H G9 := b04.trans b49
  have up2 : ∀ b, H2 b = none → H b = none := fun b hb => none_but b02 hs s2 hb
  have upG : ∀ b, G b = none → H b = none := fun b hb => none_but (b02.trans b23) hs s3 hb
  have Q1 := P1.lt (fresh_butN hs ((b23.trans b34).trans b49).n)
  have Q2 := (pk_up up2 P2).lt (fresh_butN hs (b34.trans b49).n)
  have Q3 := (pk_up upG P3).lt (fresh_butN hs b49.n)
  have odd9 : f3 = true → OddSz G9 v3 := fun e => by
    rcases odd3 e with h | h | h | h | h | ⟨l, h, hl⟩
    · exact .inl h
    · exact .inr (.inl h)
    · exact .inr (.inr (.inl h))
    · exact .inr (.inr (.inr (.inl h)))
    · exact .inr (.inr (.inr (.inr (.inl h))))
    · exact .inr (.inr (.inr (.inr (.inr ⟨l, h, fresh_sub _ _ (fresh_but s3 b49 _ _ hl)⟩))))
  clear P1 P2 P3 odd3 pk1 hp1 hp2 hp3 hp4
  (with_reducible refine r_seq ?_)
  refine if_8 rfl rfl (fresh_sub _ _ Q3.at_) (PcAt.lt (LT.of fresh_sub) pc) in3 odd9 (fun p5 f5 Ga ea A5 e5p => ?_)
  have ta : Tabs T Ga := LamX.Tabs.ext t9 ea
  have sa : Src Ga a := s9.same ea
  -- the stamps
  (with_reducible refine r_seq ?_)
  refine r_asg (r_cons (r_var rfl (r_nil ?_)))
  refine ⟨a, rfl, sa, fun p6 pb pt x y fb ft Gb hp6 at6 K2 K3 sb bab => ?_⟩
  have tb : Tabs T Gb := Tabs.but ta sa bab
  have q6 : Gb p6 = some (.tup [.ref pb, .ref pt]) := fresh_sub _ _ at6
  have SS : Same (fresh H G9) (fresh H Gb) := (fresh_up ea).trans (fresh_but hs bab)
  obtain ⟨tn, dn, on, sn, ln, en⟩ := Q1.val
  obtain ⟨td, dd, od, sd, ld, ed⟩ := Q2.val
  obtain ⟨tz, dz, oz, sz, lz, ez⟩ := Q3.val
  obtain ⟨tb', db', ob, sb', lb, eb⟩ := K2.val
  obtain ⟨tu, du', ou, su, lu, eu⟩ := K3.val
  obtain ⟨op, sp, lp, _⟩ := pcB_ok pc.ok
  have S1 : Same (fresh H G9) Gb := SS.trans fresh_sub
  have p5a : p5 ≠ a := fun z => by
    obtain ⟨_, _, _, h1, _⟩ := sa
    rw [z, h1] at A5
    cases A5
  generalize hr : (⟨p1, p2, p3, p5, pb, pt, q4, v1, v2, v3, x, y, f1, f2, f3, f5, fb, ft, tn, td, tz, tb', tu, ys, ts⟩ : Fr) = r
  have FB : Fa Gb r := by
    rw [← hr]
    exact ⟨S1 _ _ Q1.at_, S1 _ _ Q2.at_, S1 _ _ Q3.at_, bab _ _ p5a A5, fresh_sub _ _ K2.at_, fresh_sub _ _ K3.at_, S1 _ _ pc.tup, Dn.same S1 dn, Dn.same S1 dd, Dn.same S1 dz, Dn.same fresh_sub db', Dn.same fresh_sub du', DnA.same S1 pc.dn⟩
  have FO : Fok r := by
    rw [← hr]
    exact ⟨⟨on, ln⟩, sn, en, od, sd, ed, oz, sz, ez, ob, sb', eb, ou, su, eu, op, sp, lp, fun i ei e3 => e5p i (by
      rw [show tz = .int i from ei] at dz
      cases dz
      rfl) e3⟩
  refine r_gtup (SqT.of q6) rfl (r_gcons (r_gname (r_gcons (r_gname (r_gnil ?_)))))
  clear Q1 Q2 Q3 K2 K3 dn dd dz db' du' at6 SS S1
  -- what is due of the stamps
  (with_reducible refine r_seq ?_)
  refine r_asg (r_cons (r_cons (r_var rfl (r_cons (r_var rfl (r_nil ?_))))))
  refine ⟨pb, pt, x, y, fb, ft, tb', tu, rfl, by have := FB.ab; rw [← hr] at this; exact this, by have := FB.at_; rw [← hr] at this; exact this, by have := FB.db; rw [← hr] at this; exact this, by have := FB.dt; rw [← hr] at this; exact this, ob, ou, fun L Gc hL sbc atL => ?_⟩
  have FC := FB.lt (LT.of sbc)
  refine ta_ix rfl (by have := FC.a5; rw [← hr] at this; exact this) (r_nil ⟨Nat.le_of_ble_eq_true rfl, fun p7 hp7 => ?_⟩)
  refine r_gtup (SqT.of upd_same) rfl (r_gcons (r_gname (r_gcons (r_gname (r_gnil ?_)))))
  have FD := FC.lt (LT.of (same_new (o := .tup [V.ref L, V.ref q4]) hp7))
  have atD : (upd Gc p7 (.tup [V.ref L, V.ref q4])) L = some (.lst (dueV r.last)) := by
    rw [← hr]
    exact upd_old hp7 atL
  have tD : Tabs T (upd Gc p7 (.tup [V.ref L, V.ref q4])) := LamX.Tabs.ext tb (sbc.trans (same_new hp7))
  have sD : Src (upd Gc p7 (.tup [V.ref L, V.ref q4])) a := sb.same (sbc.trans (same_new hp7))
  subst hr
  exact tail_files (r := ⟨p1, p2, p3, p5, pb, pt, q4, v1, v2, v3, x, y, f1, f2, f3, f5, fb, ft, tn, td, tz, tb', tu, ys, ts⟩) (L := L) rfl FD FO tD sD atD (fun GZ xz sz tz => q GZ sz tz ((((b09.trans (Same.but ea)).trans bab).n).trans (ButN.ext ((ExtN.of (sbc.trans (same_new hp7))).trans xz))))
end
end Th
namespace Th
open PySem PySem.Spec PyProof.Rows L2
local macro_rules | `(tactic| walk_at "lk") => `(tactic| first
  | assumption
  | exact upd_same
  | (refine upd_old (by assumption) ?_; walk_at "lk")
  | (refine upd_diff (by assumption) ?_; walk_at "lk")
  | (refine upd_diff (Ne.symm (by assumption)) ?_; walk_at "lk"))
local macro_rules | `(tactic| walk_at "cnd") => `(tactic| first
  | omega
  | (refine ⟨by omega, by omega⟩)
  | (refine ⟨by omega, by omega, by omega⟩)
  | (refine .inl ⟨by omega, by omega⟩)
  | (refine .inr ⟨by omega, by omega⟩)
  | (exact (show CPow _ _ from ⟨by decide, by decide, by omega⟩))
  | decide +kernel
  | (unfold CMulW; decide +kernel)
  | (exact wide_div (b := 64) (by omega) (by omega) (by decide) (by decide)))
local macro_rules | `(tactic| walk_at "rd1") => `(tactic| first
  | (with_reducible refine r_seq ?_)
  | (with_reducible refine r_asg ?_)
  | (with_reducible refine r_ret ?_)
  | (with_reducible refine r_if ?_)
  | (with_reducible refine r_gname ?_)
  | ((with_reducible refine' r_var ?hv ?_); (case hv => exact rfl))
  | (with_reducible refine r_c ?_)
  | (with_reducible refine r_op ?_)
  | (with_reducible refine r_I0 ?_)
  | ((with_reducible refine r_I ?hc ?_); (case hc => walk_at "cnd"))
  | (with_reducible refine r_test ?_)
  | (with_reducible refine r_tB ?_)
  | (with_reducible refine r_bl ?_)
  | (with_reducible refine r_not ?_)
  | (with_reducible refine r_and ?_)
  | (with_reducible refine r_or ?_)
  | (with_reducible refine r_ifE ?_)
  | (with_reducible refine r_notV ?_)
  | (with_reducible refine r_andV ?_)
  | (with_reducible refine r_orV ?_)
  | (with_reducible refine r_chain ?_)
  | (with_reducible refine r_cb ?_)
  | (with_reducible refine r_call ?_)
  | (with_reducible refine r_callN ?_)
  | (with_reducible refine r_nil ?_)
  | (with_reducible refine r_cons ?_)
  | ((with_reducible refine r_lst ?_))
  | ((with_reducible refine r_tup ?_))
  | ((with_reducible refine r_new ?_ ?_); (exact Nat.le_of_ble_eq_true rfl); (intro p hp))
  | (with_reducible refine r_rInt1 ?_)
  | (with_reducible refine r_rIntB ?_)
  | (with_reducible refine r_rAbs ?_)
  | (with_reducible refine r_rMin2 ?_)
  | (with_reducible refine r_rMax2 ?_)
  | ((with_reducible refine r_rLenZ ?hz ?_); (case hz => first | assumption | exact Nat.le_of_ble_eq_true rfl | (refine Nat.le_trans ?_ (by decide : 100000 ≤ sizeLine); omega)))
  | ((with_reducible refine r_addZ ?hz ?_); (case hz => (refine Nat.le_trans ?_ (by decide : 100000 ≤ sizeLine); first | omega | (simp only [Str.length] at *; simp; omega))))
  | ((with_reducible refine r_mulZ ?hz ?h0 ?h1 ?_); (case hz => first | omega | exact Nat.le_of_ble_eq_true rfl); (case h0 => omega); (case h1 => omega))
  | ((with_reducible refine' r_rLenQ ?h1 ?_); (case h1 => first | (exact .inl (by assumption)) | (exact .inr (by assumption)) | (exact .inl (SqL.of (by walk_at "lk"))) | (exact .inr (SqT.of (by walk_at "lk")))))
  | ((with_reducible refine r_eq ?hs ?_); (case hs => exact rfl))
  | ((with_reducible refine r_ne ?hs ?_); (case hs => exact rfl))
  | (with_reducible refine r_inC ?_)
  | ((with_reducible refine' r_cat ?h1 ?h2 ?h3 ?_); (case h1 => walk_at "lk"); (case h2 => walk_at "lk"); (case h3 => exact Nat.le_of_ble_eq_true rfl); (intro p hp))
  | ((with_reducible refine' r_rep ?h1 ?h2 ?h3 ?h4 ?_); (case h1 => walk_at "lk"); (case h2 => omega); (case h3 => omega); (case h4 => exact Nat.le_of_ble_eq_true rfl); (intro p hp))
  | ((with_reducible refine' r_append ?h1 ?h2 ?_); (case h1 => walk_at "lk"); (case h2 => first | exact (show _ + 1 ≤ sizeLine from Nat.le_of_ble_eq_true rfl) | exact Nat.lt_of_le_of_lt (by omega : _ ≤ 100000) (by decide)))
  | (with_reducible refine r_bm ?_)
  | ((with_reducible refine' r_tyL ?h1 ?_); (case h1 => walk_at "lk"))
  | ((with_reducible refine' r_ixL ?h1 ?h2 ?_); (case h1 => first | assumption | exact SqL.of (by walk_at "lk")); (case h2 => exact rfl))
  | ((with_reducible refine' r_ixT ?h1 ?h2 ?_); (case h1 => first | assumption | exact SqT.of (by walk_at "lk")); (case h2 => exact rfl))
  | (with_reducible refine r_gsub ?_)
  | ((with_reducible refine' r_setL ?h1 ?h2 ?_); (case h1 => walk_at "lk"); (case h2 => exact rfl))
  | (with_reducible refine r_un ?_)
  | (with_reducible refine r_neg ?_)
  | (with_reducible refine r_iteT ?_)
  | (with_reducible refine r_iteNT ?_)
  | (with_reducible refine r_iteNF ?_)
  | (with_reducible refine r_iteF ?_)
  | (with_reducible refine r_next ?_)
  | (with_reducible refine r_drop ?_)
  | (with_reducible refine r_cont ?_)
  | (with_reducible refine r_brk ?_))
local macro_rules | `(tactic| walk_at "ty") => `(tactic| first
  | assumption
  | exact .base (.int _)
  | exact .base (.str _)
  | exact .base (.bl _)
  | exact .base .non
  | exact .byt _
  | exact .base (.lst (by walk_at "lk"))
  | exact .base (.tup (by walk_at "lk")))
local macro_rules | `(tactic| walk_at "rd2") => `(tactic| first
  | walk_at "rd1"
  | ((with_reducible refine' r_isi true ?ht ?hk ?_); (case ht => walk_at "ty"); (case hk => first | assumption | decide +kernel))
  | ((with_reducible refine' r_isi false ?ht ?hk ?_); (case ht => walk_at "ty"); (case hk => first | assumption | decide +kernel))
  | ((with_reducible refine' r_isiT2 true true ?hT ?ht ?hk ?hk2 ?_); (case hT => walk_at "lk"); (case ht => walk_at "ty"); (case hk => decide +kernel); (case hk2 => decide +kernel))
  | ((with_reducible refine' r_isiT2 true false ?hT ?ht ?hk ?hk2 ?_); (case hT => walk_at "lk"); (case ht => walk_at "ty"); (case hk => decide +kernel); (case hk2 => decide +kernel))
  | ((with_reducible refine' r_isiT2 false true ?hT ?ht ?hk ?hk2 ?_); (case hT => walk_at "lk"); (case ht => walk_at "ty"); (case hk => decide +kernel); (case hk2 => decide +kernel))
  | ((with_reducible refine' r_isiT2 false false ?hT ?ht ?hk ?hk2 ?_); (case hT => walk_at "lk"); (case ht => walk_at "ty"); (case hk => decide +kernel); (case hk2 => decide +kernel))
  | (with_reducible refine r_iteNT ?_)
  | ((show (if (!true) = true then _ else _)); refine r_iteNT ?_)
  | (with_reducible refine r_r1 ?_)
  | (with_reducible refine r_maks ?_)
  | (with_reducible refine r_sfld ?_)
  | ((with_reducible refine' r_sfldE ?h1 ?h2 ?h3 ?h4 ?_); (case h1 => walk_at "lk"); (case h2 => assumption); (case h3 => assumption); (case h4 => exact (show _ + 1 ≤ 1000 from Nat.le_of_ble_eq_true rfl)))
  | (with_reducible refine r_fld ?_)
  | (with_reducible refine r_join ?_)
  | (with_reducible refine r_jcons ?_)
  | (with_reducible refine r_jnil ?_)
  | ((with_reducible refine r_rLenY ?hz ?_); (case hz => first | assumption | (refine Nat.le_trans ?_ (by decide : 100000 ≤ sizeLine); omega)))
  | (with_reducible refine r_par ?_)
  | (with_reducible refine r_pair ?_)
  | (with_reducible refine r_par3 ?_)
  | (with_reducible refine r_trip ?_)
  | ((with_reducible refine' r_gtup ?h1 ?h2 ?_); (case h1 => first | assumption | exact SqT.of (by walk_at "lk")); (case h2 => exact rfl))
  | (with_reducible refine r_gcons ?_)
  | (with_reducible refine r_gnil ?_)
  | ((with_reducible refine' r_slL ?h1 ?_); (case h1 => first | assumption | exact SqL.of (by walk_at "lk")); (intro p hp))
  | (with_reducible refine r_iTup ?_)
  | ((with_reducible refine' r_tupE ?h1 ?_); (case h1 => first | assumption | exact SqT.of (by walk_at "lk")))
  | (with_reducible refine r_m1 ?_)
  | (with_reducible refine r_isZ ?_)
  | (with_reducible refine r_sl ?_)
  | (with_reducible refine r_noPart ?_)
  | (with_reducible refine r_part ?_)
  | (with_reducible refine r_partE ?_)
  | ((with_reducible refine r_slS ?hz ?_); (case hz => first | assumption | (refine Nat.le_trans ?_ (by decide : 100000 ≤ sizeLine); omega)))
  | ((with_reducible refine' r_inT ?h1 ?h2 ?h3 ?_); (case h1 => first | assumption | (exact SqT.of (by walk_at "lk"))); (case h2 => exact rfl); (case h3 => exact rfl))
  | ((with_reducible refine' r_inL ?h1 ?h2 ?h3 ?_); (case h1 => first | assumption | (exact SqL.of (by walk_at "lk"))); (case h2 => exact rfl); (case h3 => exact rfl))
  | (with_reducible refine r_lc ?_)
  | (with_reducible refine r_for ?_)
  | (with_reducible refine r_iStr ?_)
  | (with_reducible refine r_strE ?_)
  | (with_reducible refine r_iList ?_)
  | ((with_reducible refine' r_listE ?h1 ?_); (case h1 => first | assumption | exact SqL.of (by walk_at "lk")))
  | (with_reducible refine r_iRng1 ?_)
  | ((with_reducible refine' r_rngE ?h0 ?h1 ?_); (case h0 => first | omega | (split <;> omega)); (case h1 => first | omega | (split <;> omega))))
local macro_rules | `(tactic| walk_at "rd") => `(tactic| (repeat walk_at "rd2"))
local macro_rules | `(tactic| walk_at "st") => `(tactic| (repeat (first
  | (with_reducible refine r_gname ?_)
  | (with_reducible refine r_next ?_)
  | (with_reducible refine r_seq ?_)
  | (with_reducible refine r_asg ?_)
  | (with_reducible refine r_ret ?_)
  | (with_reducible refine r_for ?_)
  | (with_reducible refine r_iRng1 ?_)
  | (with_reducible refine r_iList ?_)
  | (with_reducible refine r_cons ?_)
  | (with_reducible refine r_par ?_)
  | (with_reducible refine r_par3 ?_))))
open LamX (Tabs TabB ExtN)
section
variable {P : Program} {w : World} {K : PySem.W.Frag} {mg : Str → Option Value} {base : Heap}
theorem ok_files {f : Addr} {fd : FuncData} {cA PA : Addr} {T : List (Addr × Str)} {c : Ec} {CF CS : Addr} (F : FunC K "_law_files_right" "_law_files_right" s__law_files_right f fd cA) (TB : TabB base mg cA PA)
    (inT : (PA, ("_law_files_right" : Str) ++ ".<locals>.<lambda>") ∈ T) (one : ∀ p ∈ T, p.1 = PA → p.2 = ("_law_files_right" : Str) ++ ".<locals>.<lambda>")
    (e_error : CalL P w K mg base 14 "_law_error" (TTerr c)) (m1 : mg "repr" = none) (m2 : mg "len" = none)
    (mk_File : MakX P w K mg base 11 "File" CF ["mode", "time"] (pX (spFileX c CF))) (mk_Spa : MakX P w K mg base 11 "Sparse" CS ["mode", "time"] (spSpa c CS))
    (c_blob : CalT P w K mg base 4 "blob" spBlob)
    (c_pick : CalT P w K mg base 4 "_law_pick" spPick) (c_wrong : CalT P w K mg base 5 "_law_wrong_names" spWrong) (c_rst : CalT P w K mg base 6 "_law_random_stamps" spRSt) (g_sdue : CalG P w K mg base 4 "_law_stamps_due" spSDue) :
    FnG P w K mg base 17 f fd ["_law_source_here"] (spLinks T) := by
  refine F.okG sc__law_files_right (fun vs H Q E h => ?_) (fun A outer s H vs Q E hr gd h => ?_)
  · obtain ⟨a, rfl, _⟩ := h
    rfl
  · exact walk_files TB inT one hr gd e_error m1 m2 mk_File mk_Spa c_blob c_pick c_wrong c_rst g_sdue h
def spBErr : Sp := fun vs H Q _ => ∃ (x : V) (t : Tr), vs = [x] ∧ Dn H x t ∧ TOk t ∧ t.rowB = false ∧ ∀ p H', H p = none → Same H H' → H' p = some (.lst [.str t.shown, .bl true]) → Q (.ref p) H'
theorem ok_berr {f C fI cD cK cM : Addr} {fd : FuncData} {k : Nat} (F : Fun K "_law_blob_error" "_law_blob_error" s__law_blob_error f fd) (T : ExG K C fI) (hno : PySem.W.findIn K (.ref C) "numbers" = some none) (kT : PySem.W.kitOne K (.ref C) (.type "TypeError") = some true)
    (kN : PySem.W.kitAny K (.ref C) [.ref cD, .ref cK, .ref cM] = some false) (ex : PySem.W.exmOne K (.ref C) (.ref C) = some true) (mB : mg "NoBlob" = some (.ref C)) (mNd : mg "NoData" = some (.ref cD)) (mNk : mg "NoBlock" = some (.ref cK)) (mNm : mg "NoMember" = some (.ref cM))
    (m1 : mg "isinstance" = none) (m2 : mg "TypeError" = none) (m3 : mg "repr" = none) (x_blob : CalX P w K mg base 9 "blob" (spBlobX C)) : FnG P w K mg base (k + 11) f fd ["_law_value"] spBErr := by
  refine Fun.okG (k := k + 10) F sc__law_blob_error (fun vs H Q E h => ?_) (fun cdv A outer s H vs Q E hr gd0 h => ?_)
  · obtain ⟨x, t, rfl, _⟩ := h
    rfl
  · obtain ⟨x, t, rfl, dn, ht, hb, q⟩ := h
    have hu := hu_of hr
    have hu64 : (A.deeper (envOfC "_law_blob_error" (defScope s__law_blob_error) s.heap.objs.size f cdv)).units + 64 < cLine := by have := hr.un; omega
    have gd : (A.deeper (envOfC "_law_blob_error" (defScope s__law_blob_error) s.heap.objs.size f cdv)).guards = some [] := gd0
    have nd := sc__law_blob_error.nd
    refine ⟨_, (pss_cons (ps_try_as (i := 1) rfl rfl nd rfl rfl ⟨rfl, by decide, .inl mB⟩ takes0 (fun W pn xe tk _ => (pss_one (ps_expr (pe_ccX x_blob hr (by omega) (by rfl) (fun σ => passAt tk σ) (pa_cons (pv 0) pa_nil)))))
      (fun a oe cls d pn hz hf => (pss_one (ps_ret (pe_lst (pa_cons (pe_callB (call_rReprT gd hu64) (by rfl) (by assumption) (by decide +kernel) (pa_cons (pe_suF K hz hf (pv 1)) pa_nil)) (pa_cons (pe_and (pe_callB (call_isE K hz hf) (by rfl) (by assumption) (by decide +kernel) (pa_cons (pv 1) (pa_cons (pe_bltn (v := .ty "TypeError") (by rfl) (by assumption) (by decide +kernel) rfl) pa_nil))) (pe_one (pe_not (pe_callB (call_isEt K hz hf) (by rfl) (by assumption) (by decide +kernel) (pa_cons (pv 1) (pa_cons (pe_tup (pa_cons (pe_glob (v := .ref cD) (by rfl) mNd (by first | exact rfl | exact ⟨_, rfl⟩)) (pa_cons (pe_glob (v := .ref cK) (by rfl) mNk (by first | exact rfl | exact ⟨_, rfl⟩)) (pa_cons (pe_glob (v := .ref cM) (by rfl) mNm (by first | exact rfl | exact ⟨_, rfl⟩)) pa_nil)))) pa_nil)))))) pa_nil)))))))
      (pss_one (ps_ret (pe_lst (pa_cons pe_str (pa_cons pe_bl pa_nil)))))), ?_⟩
    walk_at "rd"
    show tCons (tVar 0) tNil _ _ _
    walk_at "rd"
    refine ⟨x, t, rfl, dn, ht, fun z => absurd (z.symm.trans hb) (by decide), fun _ y dx H1 e1 h1 dy => ?_⟩
    refine ⟨true, ex, fun _ a ha => ?_, fun z => Bool.noConfusion z⟩
    walk_at "rd"
    refine r_suF T hno h1 rfl ?_
    refine r_nil (r_reprT dy ht ?_)
    walk_at "rd"
    refine r_isE T h1 (.ty _) kT (r_bl (r_iteT ?_))
    walk_at "rd"
    rename_i p hp
    refine r_isEt T (upd_old hp h1) upd_same (.cons (.own _) (.cons (.own _) (.cons (.own _) .nil))) kN (r_bl ?_)
    walk_at "rd"
    rename_i p2 hp2
    exact q p2 _ (none_same (e1.trans (same_new hp)) hp2) ((e1.trans (same_new hp)).trans (same_new hp2)) upd_same
end
end Th
namespace Th
open PySem PySem.Spec PyProof.Rows L2
local macro_rules | `(tactic| walk_at "lk") => `(tactic| first
  | assumption
  | exact upd_same
  | (refine upd_old (by assumption) ?_; walk_at "lk")
  | (refine upd_diff (by assumption) ?_; walk_at "lk")
  | (refine upd_diff (Ne.symm (by assumption)) ?_; walk_at "lk"))
local macro_rules | `(tactic| walk_at "cnd") => `(tactic| first
  | omega
  | (refine ⟨by omega, by omega⟩)
  | (refine ⟨by omega, by omega, by omega⟩)
  | (refine .inl ⟨by omega, by omega⟩)
  | (refine .inr ⟨by omega, by omega⟩)
  | (exact (show CPow _ _ from ⟨by decide, by decide, by omega⟩))
  | decide +kernel
  | (unfold CMulW; decide +kernel)
  | (exact wide_div (b := 64) (by omega) (by omega) (by decide) (by decide)))
local macro_rules | `(tactic| walk_at "rd1") => `(tactic| first
  | (with_reducible refine r_seq ?_)
  | (with_reducible refine r_asg ?_)
  | (with_reducible refine r_ret ?_)
  | (with_reducible refine r_if ?_)
  | (with_reducible refine r_gname ?_)
  | ((with_reducible refine' r_var ?hv ?_); (case hv => exact rfl))
  | (with_reducible refine r_c ?_)
  | (with_reducible refine r_op ?_)
  | (with_reducible refine r_I0 ?_)
  | ((with_reducible refine r_I ?hc ?_); (case hc => walk_at "cnd"))
  | (with_reducible refine r_test ?_)
  | (with_reducible refine r_tB ?_)
  | (with_reducible refine r_bl ?_)
  | (with_reducible refine r_not ?_)
  | (with_reducible refine r_and ?_)
  | (with_reducible refine r_or ?_)
  | (with_reducible refine r_ifE ?_)
  | (with_reducible refine r_notV ?_)
  | (with_reducible refine r_andV ?_)
  | (with_reducible refine r_orV ?_)
  | (with_reducible refine r_chain ?_)
  | (with_reducible refine r_cb ?_)
  | (with_reducible refine r_call ?_)
  | (with_reducible refine r_callN ?_)
  | (with_reducible refine r_nil ?_)
  | (with_reducible refine r_cons ?_)
  | ((with_reducible refine r_lst ?_))
  | ((with_reducible refine r_tup ?_))
  | ((with_reducible refine r_new ?_ ?_); (exact Nat.le_of_ble_eq_true rfl); (intro p hp))
  | (with_reducible refine r_rInt1 ?_)
  | (with_reducible refine r_rIntB ?_)
  | (with_reducible refine r_rAbs ?_)
  | (with_reducible refine r_rMin2 ?_)
  | (with_reducible refine r_rMax2 ?_)
  | ((with_reducible refine r_rLenZ ?hz ?_); (case hz => first | assumption | exact Nat.le_of_ble_eq_true rfl | (refine Nat.le_trans ?_ (by decide : 100000 ≤ sizeLine); omega)))
  | ((with_reducible refine r_addZ ?hz ?_); (case hz => (refine Nat.le_trans ?_ (by decide : 100000 ≤ sizeLine); first | omega | (simp only [Str.length] at *; simp; omega))))
  | ((with_reducible refine r_mulZ ?hz ?h0 ?h1 ?_); (case hz => first | omega | exact Nat.le_of_ble_eq_true rfl); (case h0 => omega); (case h1 => omega))
  | ((with_reducible refine' r_rLenQ ?h1 ?_); (case h1 => first | (exact .inl (by assumption)) | (exact .inr (by assumption)) | (exact .inl (SqL.of (by walk_at "lk"))) | (exact .inr (SqT.of (by walk_at "lk")))))
  | ((with_reducible refine r_eq ?hs ?_); (case hs => exact rfl))
  | ((with_reducible refine r_ne ?hs ?_); (case hs => exact rfl))
  | (with_reducible refine r_inC ?_)
  | ((with_reducible refine' r_cat ?h1 ?h2 ?h3 ?_); (case h1 => walk_at "lk"); (case h2 => walk_at "lk"); (case h3 => exact Nat.le_of_ble_eq_true rfl); (intro p hp))
  | ((with_reducible refine' r_rep ?h1 ?h2 ?h3 ?h4 ?_); (case h1 => walk_at "lk"); (case h2 => omega); (case h3 => omega); (case h4 => exact Nat.le_of_ble_eq_true rfl); (intro p hp))
  | ((with_reducible refine' r_append ?h1 ?h2 ?_); (case h1 => walk_at "lk"); (case h2 => first | exact (show _ + 1 ≤ sizeLine from Nat.le_of_ble_eq_true rfl) | exact Nat.lt_of_le_of_lt (by omega : _ ≤ 100000) (by decide)))
  | (with_reducible refine r_bm ?_)
  | ((with_reducible refine' r_tyL ?h1 ?_); (case h1 => walk_at "lk"))
  | ((with_reducible refine' r_ixL ?h1 ?h2 ?_); (case h1 => first | assumption | exact SqL.of (by walk_at "lk")); (case h2 => exact rfl))
  | ((with_reducible refine' r_ixT ?h1 ?h2 ?_); (case h1 => first | assumption | exact SqT.of (by walk_at "lk")); (case h2 => exact rfl))
  | (with_reducible refine r_gsub ?_)
  | ((with_reducible refine' r_setL ?h1 ?h2 ?_); (case h1 => walk_at "lk"); (case h2 => exact rfl))
  | (with_reducible refine r_un ?_)
  | (with_reducible refine r_neg ?_)
  | (with_reducible refine r_iteT ?_)
  | (with_reducible refine r_iteNT ?_)
  | (with_reducible refine r_iteNF ?_)
  | (with_reducible refine r_iteF ?_)
  | (with_reducible refine r_next ?_)
  | (with_reducible refine r_drop ?_)
  | (with_reducible refine r_cont ?_)
  | (with_reducible refine r_brk ?_))
local macro_rules | `(tactic| walk_at "ty") => `(tactic| first
  | assumption
  | exact .base (.int _)
  | exact .base (.str _)
  | exact .base (.bl _)
  | exact .base .non
  | exact .byt _
  | exact .base (.lst (by walk_at "lk"))
  | exact .base (.tup (by walk_at "lk")))
local macro_rules | `(tactic| walk_at "rd2") => `(tactic| first
  | walk_at "rd1"
  | ((with_reducible refine' r_isi true ?ht ?hk ?_); (case ht => walk_at "ty"); (case hk => first | assumption | decide +kernel))
  | ((with_reducible refine' r_isi false ?ht ?hk ?_); (case ht => walk_at "ty"); (case hk => first | assumption | decide +kernel))
  | ((with_reducible refine' r_isiT2 true true ?hT ?ht ?hk ?hk2 ?_); (case hT => walk_at "lk"); (case ht => walk_at "ty"); (case hk => decide +kernel); (case hk2 => decide +kernel))
  | ((with_reducible refine' r_isiT2 true false ?hT ?ht ?hk ?hk2 ?_); (case hT => walk_at "lk"); (case ht => walk_at "ty"); (case hk => decide +kernel); (case hk2 => decide +kernel))
  | ((with_reducible refine' r_isiT2 false true ?hT ?ht ?hk ?hk2 ?_); (case hT => walk_at "lk"); (case ht => walk_at "ty"); (case hk => decide +kernel); (case hk2 => decide +kernel))
  | ((with_reducible refine' r_isiT2 false false ?hT ?ht ?hk ?hk2 ?_); (case hT => walk_at "lk"); (case ht => walk_at "ty"); (case hk => decide +kernel); (case hk2 => decide +kernel))
  | (with_reducible refine r_iteNT ?_)
  | ((show (if (!true) = true then _ else _)); refine r_iteNT ?_)
  | (with_reducible refine r_r1 ?_)
  | (with_reducible refine r_maks ?_)
  | (with_reducible refine r_sfld ?_)
  | ((with_reducible refine' r_sfldE ?h1 ?h2 ?h3 ?h4 ?_); (case h1 => walk_at "lk"); (case h2 => assumption); (case h3 => assumption); (case h4 => exact (show _ + 1 ≤ 1000 from Nat.le_of_ble_eq_true rfl)))
  | (with_reducible refine r_fld ?_)
  | (with_reducible refine r_join ?_)
  | (with_reducible refine r_jcons ?_)
  | (with_reducible refine r_jnil ?_)
  | ((with_reducible refine r_rLenY ?hz ?_); (case hz => first | assumption | (refine Nat.le_trans ?_ (by decide : 100000 ≤ sizeLine); omega)))
  | (with_reducible refine r_par ?_)
  | (with_reducible refine r_pair ?_)
  | (with_reducible refine r_par3 ?_)
  | (with_reducible refine r_trip ?_)
  | ((with_reducible refine' r_gtup ?h1 ?h2 ?_); (case h1 => first | assumption | exact SqT.of (by walk_at "lk")); (case h2 => exact rfl))
  | (with_reducible refine r_gcons ?_)
  | (with_reducible refine r_gnil ?_)
  | ((with_reducible refine' r_slL ?h1 ?_); (case h1 => first | assumption | exact SqL.of (by walk_at "lk")); (intro p hp))
  | (with_reducible refine r_iTup ?_)
  | ((with_reducible refine' r_tupE ?h1 ?_); (case h1 => first | assumption | exact SqT.of (by walk_at "lk")))
  | (with_reducible refine r_m1 ?_)
  | (with_reducible refine r_isZ ?_)
  | (with_reducible refine r_sl ?_)
  | (with_reducible refine r_noPart ?_)
  | (with_reducible refine r_part ?_)
  | (with_reducible refine r_partE ?_)
  | ((with_reducible refine r_slS ?hz ?_); (case hz => first | assumption | (refine Nat.le_trans ?_ (by decide : 100000 ≤ sizeLine); omega)))
  | ((with_reducible refine' r_inT ?h1 ?h2 ?h3 ?_); (case h1 => first | assumption | (exact SqT.of (by walk_at "lk"))); (case h2 => exact rfl); (case h3 => exact rfl))
  | ((with_reducible refine' r_inL ?h1 ?h2 ?h3 ?_); (case h1 => first | assumption | (exact SqL.of (by walk_at "lk"))); (case h2 => exact rfl); (case h3 => exact rfl))
  | (with_reducible refine r_lc ?_)
  | (with_reducible refine r_for ?_)
  | (with_reducible refine r_iStr ?_)
  | (with_reducible refine r_strE ?_)
  | (with_reducible refine r_iList ?_)
  | ((with_reducible refine' r_listE ?h1 ?_); (case h1 => first | assumption | exact SqL.of (by walk_at "lk")))
  | (with_reducible refine r_iRng1 ?_)
  | ((with_reducible refine' r_rngE ?h0 ?h1 ?_); (case h0 => first | omega | (split <;> omega)); (case h1 => first | omega | (split <;> omega))))
local macro_rules | `(tactic| walk_at "rd") => `(tactic| (repeat walk_at "rd2"))
local macro_rules | `(tactic| walk_at "st") => `(tactic| (repeat (first
  | (with_reducible refine r_gname ?_)
  | (with_reducible refine r_next ?_)
  | (with_reducible refine r_seq ?_)
  | (with_reducible refine r_asg ?_)
  | (with_reducible refine r_ret ?_)
  | (with_reducible refine r_for ?_)
  | (with_reducible refine r_iRng1 ?_)
  | (with_reducible refine r_iList ?_)
  | (with_reducible refine r_cons ?_)
  | (with_reducible refine r_par ?_)
  | (with_reducible refine r_par3 ?_))))
/-! ### odd values for blob -/
theorem strOk_app {a b : Str} (ha : PyData.strOk a = true) (hb : PyData.strOk b = true) : PyData.strOk (a ++ b) = true := by
  unfold PyData.strOk at *
  show (a.cps ++ b.cps).all _ = true
  rw [Array.all_append, ha, hb]
  rfl
theorem strOk_textFrom : ∀ (ts : List Str) (k : Nat) (acc : Str), PyData.strOk acc = true → (∀ t ∈ ts, PyData.strOk t = true) → PyData.strOk (textFrom k acc ts) = true
  | [], _, _, h, _ => h
  | t :: ts, k, acc, h, ht => by
    refine strOk_textFrom ts (k + 1) _ (strOk_app (strOk_app h ?_) (ht t List.mem_cons_self)) fun u hu => ht u (List.mem_cons_of_mem _ hu)
    split <;> decide +kernel
theorem strOk_list {ts : List Str} (h : ∀ t ∈ ts, PyData.strOk t = true) : PyData.strOk (listText ts) = true := strOk_app (strOk_textFrom ts 0 "[" (by decide +kernel) h) (by decide +kernel)
/-- a small item of a list -/
def itemOk (t : Tr) : Bool := t.ok && (t.small && (decide (t.depth = 0) && (decide (t.shown.length ≤ 8) && PyData.strOk t.shown)))
theorem items_ok : ∀ {ts : List Tr}, ts.all itemOk = true → Tr.okAll ts = true ∧ Tr.smallAll ts = true ∧ Tr.depthAll ts = 0 ∧ (∀ z ∈ Tr.shownAll ts, z.length ≤ 8 ∧ PyData.strOk z = true) ∧ (Tr.shownAll ts).length = ts.length
  | [], _ => ⟨rfl, rfl, rfl, (fun _ h => nomatch h), rfl⟩
  | t :: ts, h => by
    rw [List.all_cons, Bool.and_eq_true] at h
    obtain ⟨h1, h2⟩ := h
    obtain ⟨a, b, c, d, e⟩ := items_ok h2
    simp only [itemOk, Bool.and_eq_true, decide_eq_true_eq] at h1
    obtain ⟨o1, o2, o3, o4, o5⟩ := h1
    refine ⟨by simp [Tr.okAll, o1, a], by simp [Tr.smallAll, o2, b], by simp only [Tr.depthAll, o3, c]; rfl, fun z hz => ?_, by simp only [Tr.shownAll, List.length_cons, e]⟩
    simp only [Tr.shownAll] at hz
    rcases List.mem_cons.mp hz with rfl | hz
    · exact ⟨o4, o5⟩
    · exact d z hz
theorem sum_le : ∀ {zs : List Str}, (∀ z ∈ zs, z.length ≤ 8) → (zs.map (·.length)).sum ≤ 8 * zs.length
  | [], _ => Nat.zero_le _
  | z :: zs, h => by
    have h1 := h z List.mem_cons_self
    have h2 := sum_le fun y hy => h y (List.mem_cons_of_mem z hy)
    simp only [List.map_cons, List.sum_cons, List.length_cons]
    omega
theorem list_tok {ts : List Tr} (h : ts.all itemOk = true) (hl : ts.length ≤ 20) : TOk (.lst ts) ∧ PyData.strOk (Tr.lst ts).shown = true := by
  obtain ⟨a, b, c, d, e⟩ := items_ok h
  have h1 := listText_len_le (Tr.shownAll ts)
  have h2 := sum_le (zs := Tr.shownAll ts) fun z hz => (d z hz).1
  refine ⟨⟨a, by simp only [Tr.small, b, Bool.and_true, decide_eq_true_eq]; omega, by simp only [Tr.depth, c]; decide, ?_⟩, ?_⟩
  · simp only [Tr.shown]
    rw [sizeLine_eq]
    omega
  · simp only [Tr.shown]
    exact strOk_list fun z hz => (d z hz).2
theorem nat_item : ∀ x ∈ List.range 256, itemOk (.int ((x : Nat) : Int)) = true := by decide +kernel
theorem ints_item : ∀ {ns : List Int}, (∀ n ∈ ns, 0 ≤ n ∧ n < 256) → (ns.map Tr.int).all itemOk = true
  | [], _ => rfl
  | n :: ns, h => by
    have h0 := h n List.mem_cons_self
    rw [List.map_cons, List.all_cons, ints_item fun m hm => h m (List.mem_cons_of_mem _ hm), Bool.and_true]
    have h1 := nat_item n.toNat (List.mem_range.mpr (by omega))
    rw [show ((n.toNat : Nat) : Int) = n by omega] at h1
    exact h1
theorem dna_int {H : Hp} : ∀ (ns : List Int), DnA H (ns.map V.int) (ns.map Tr.int)
  | [] => .nil
  | n :: ns => .cons (.int n) (dna_int ns)
theorem nums_int : ∀ (ns : List Int), numsOf (ns.map Tr.int) = ns
  | [] => rfl
  | n :: ns => by rw [List.map_cons]; simp only [numsOf]; rw [nums_int ns]
theorem ints_within : ∀ {ns : List Int}, (∀ n ∈ ns, 0 ≤ n ∧ n < 256) → (ns.map Tr.int).all (Tr.within 0 255) = true
  | [], _ => rfl
  | n :: ns, h => by
    have h0 := h n List.mem_cons_self
    rw [List.map_cons, List.all_cons, ints_within fun m hm => h m (List.mem_cons_of_mem _ hm), Bool.and_true]
    simp only [Tr.within, Bool.and_eq_true, decide_eq_true_eq]
    omega
/-- no row of bytes, and to be shown -/
def OddOk (t : Tr) : Prop := TOk t ∧ PyData.strOk t.shown = true ∧ t.rowB = false
theorem odd_mk {t : Tr} (h : (okT t && !t.rowB) = true) : OddOk t := by
  rw [Bool.and_eq_true] at h
  exact ⟨(okT_ok h.1).1, (okT_ok h.1).2.1, by simpa using h.2⟩
theorem odd_list {ns : List Int} {e : Tr} (hn : ∀ n ∈ ns, 0 ≤ n ∧ n < 256) (hl : ns.length ≤ 10) (he : itemOk e = true) (hw : e.within 0 255 = false) : OddOk (.lst (ns.map Tr.int ++ [e])) := by
  obtain ⟨a, b⟩ := list_tok (ts := ns.map Tr.int ++ [e]) (by rw [List.all_append, ints_item hn]; simp [he]) (by simp; omega)
  refine ⟨a, b, ?_⟩
  simp only [Tr.rowB, List.all_append, List.all_cons, hw, Bool.false_and, Bool.and_false]
def oddTs (ns : List Int) : List Tr := [.non, .int 3, .bl true, .str (Str.ofString "a"), .tup [.int 256], .lst [.int (-1)], .lst [.bl true], .lst [.str (Str.ofString "1")], .lst [.lst [.int 1]], bB [1], .emp, .lst (ns.map Tr.int ++ [.int 256]), .lst (ns.map Tr.int ++ [.non]), .int 0]
theorem odd_all {ns : List Int} (hn : ∀ n ∈ ns, 0 ≤ n ∧ n < 256) (hl : ns.length ≤ 10) : ∀ t ∈ oddTs ns, OddOk t := by
  intro t ht
  simp only [oddTs, List.mem_cons, List.not_mem_nil, or_false] at ht
  rcases ht with rfl | rfl | rfl | rfl | rfl | rfl | rfl | rfl | rfl | rfl | rfl | rfl | rfl | rfl
  · exact odd_mk (by decide +kernel)
  · exact odd_mk (by decide +kernel)
  · exact odd_mk (by decide +kernel)
  · exact odd_mk (by decide +kernel)
  · exact odd_mk (by decide +kernel)
  · exact odd_mk (by decide +kernel)
  · exact odd_mk (by decide +kernel)
  · exact odd_mk (by decide +kernel)
  · exact odd_mk (by decide +kernel)
  · exact odd_mk (by decide +kernel)
  · exact odd_mk (by decide +kernel)
  · exact odd_list hn hl (by decide +kernel) (by decide +kernel)
  · exact odd_list hn hl (by decide +kernel) (by decide +kernel)
  · exact odd_mk (by decide +kernel)
/-! ### rows [text, True] -/
def rowsD (ts : List Tr) : List PyData := ts.map fun t => .list [.str t.shown, .bool true]
inductive Rows8 (H : Hp) : List V → List Tr → Prop
  | nil : Rows8 H [] []
  | cons {p : Addr} {t : Tr} {xs : List V} {ts : List Tr} : H p = some (.lst [.str t.shown, .bl true]) → Rows8 H xs ts → Rows8 H (.ref p :: xs) (t :: ts)
theorem Rows8.same {H H' : Hp} (e : Same H H') : ∀ {xs : List V} {ts : List Tr}, Rows8 H xs ts → Rows8 H' xs ts
  | _, _, .nil => .nil
  | _, _, .cons h r => .cons (e _ _ h) (Rows8.same e r)
theorem Rows8.snoc {H : Hp} {p : Addr} {t : Tr} : ∀ {xs : List V} {ts : List Tr}, Rows8 H xs ts → H p = some (.lst [.str t.shown, .bl true]) → Rows8 H (xs ++ [.ref p]) (ts ++ [t])
  | _, _, .nil, h => .cons h .nil
  | _, _, .cons a r, h => .cons a (Rows8.snoc r h)
theorem Rows8.len {H : Hp} : ∀ {xs : List V} {ts : List Tr}, Rows8 H xs ts → xs.length = ts.length
  | _, _, .nil => rfl
  | _, _, .cons _ r => congrArg Nat.succ (Rows8.len r)
theorem Rows8.dp {K : PySem.W.Frag} {H : Hp} : ∀ {xs : List V} {ts : List Tr}, Rows8 H xs ts → DpAll K H xs (rowsD ts)
  | _, _, .nil => .nil
  | _, _, .cons h r => .cons (.lst (SqL.of h) (.cons (.str _) (.cons (.bl _) .nil))) (Rows8.dp r)
theorem rowsD_ok : ∀ {ts : List Tr}, (∀ t ∈ ts, PyData.strOk t.shown = true) → PyData.canLayAll0 (rowsD ts) = true ∧ PyData.depthAll (rowsD ts) ≤ 1 ∧ PyData.eqvAll (rowsD ts) (rowsD ts) = true
  | [], _ => ⟨rfl, Nat.zero_le _, rfl⟩
  | t :: ts, h => by
    obtain ⟨a, b, c⟩ := rowsD_ok fun u hu => h u (List.mem_cons_of_mem t hu)
    have h0 := h t List.mem_cons_self
    have e : rowsD (t :: ts) = .list [.str t.shown, .bool true] :: rowsD ts := rfl
    rw [e]
    refine ⟨?_, ?_, ?_⟩
    · simp only [PyData.canLayAll0, PyData.canLay0, h0, a]; rfl
    · simp only [PyData.depthAll, PyData.depth]; omega
    · simp only [PyData.eqvAll, PyData.eqv, c]; simp
theorem r_neRows {K : PySem.W.Frag} {H : Hp} {Q : VK} {p q : Addr} {xs ys : List V} {ts : List Tr} (h1 : H p = some (.lst xs)) (h2 : H q = some (.lst ys)) (r1 : Rows8 H xs ts) (r2 : Rows8 H ys ts) (ok : ∀ t ∈ ts, PyData.strOk t.shown = true) (h : Q (.bl false) H) : rNeD K (.ref p) (.ref q) H Q := by
  obtain ⟨a, b, c⟩ := rowsD_ok ok
  have sh : SeqAt.shaped (.list (rowsD ts)) = true := by
    unfold SeqAt.shaped
    rw [show PyData.canLay0 (.list (rowsD ts)) = true by simp only [PyData.canLay0]; exact a, Bool.true_and]
    exact decide_eq_true (by simp only [PyData.depth]; omega)
  refine ⟨.list (rowsD ts), .list (rowsD ts), .lst (SqL.of h1) r1.dp, .lst (SqL.of h2) r2.dp, sh, sh, ?_⟩
  have e : PyData.eqv (.list (rowsD ts)) (.list (rowsD ts)) = true := by simp only [PyData.eqv]; exact c
  rw [e]
  exact h
end Th
namespace Th
open PySem PySem.Spec PyProof.Rows L2
local macro_rules | `(tactic| walk_at "lk") => `(tactic| first
  | assumption
  | exact upd_same
  | (refine upd_old (by assumption) ?_; walk_at "lk")
  | (refine upd_diff (by assumption) ?_; walk_at "lk")
  | (refine upd_diff (Ne.symm (by assumption)) ?_; walk_at "lk"))
local macro_rules | `(tactic| walk_at "cnd") => `(tactic| first
  | omega
  | (refine ⟨by omega, by omega⟩)
  | (refine ⟨by omega, by omega, by omega⟩)
  | (refine .inl ⟨by omega, by omega⟩)
  | (refine .inr ⟨by omega, by omega⟩)
  | (exact (show CPow _ _ from ⟨by decide, by decide, by omega⟩))
  | decide +kernel
  | (unfold CMulW; decide +kernel)
  | (exact wide_div (b := 64) (by omega) (by omega) (by decide) (by decide)))
local macro_rules | `(tactic| walk_at "rd1") => `(tactic| first
  | (with_reducible refine r_seq ?_)
  | (with_reducible refine r_asg ?_)
  | (with_reducible refine r_ret ?_)
  | (with_reducible refine r_if ?_)
  | (with_reducible refine r_gname ?_)
  | ((with_reducible refine' r_var ?hv ?_); (case hv => exact rfl))
  | (with_reducible refine r_c ?_)
  | (with_reducible refine r_op ?_)
  | (with_reducible refine r_I0 ?_)
  | ((with_reducible refine r_I ?hc ?_); (case hc => walk_at "cnd"))
  | (with_reducible refine r_test ?_)
  | (with_reducible refine r_tB ?_)
  | (with_reducible refine r_bl ?_)
  | (with_reducible refine r_not ?_)
  | (with_reducible refine r_and ?_)
  | (with_reducible refine r_or ?_)
  | (with_reducible refine r_ifE ?_)
  | (with_reducible refine r_notV ?_)
  | (with_reducible refine r_andV ?_)
  | (with_reducible refine r_orV ?_)
  | (with_reducible refine r_chain ?_)
  | (with_reducible refine r_cb ?_)
  | (with_reducible refine r_call ?_)
  | (with_reducible refine r_callN ?_)
  | (with_reducible refine r_nil ?_)
  | (with_reducible refine r_cons ?_)
  | ((with_reducible refine r_lst ?_))
  | ((with_reducible refine r_tup ?_))
  | ((with_reducible refine r_new ?_ ?_); (exact Nat.le_of_ble_eq_true rfl); (intro p hp))
  | (with_reducible refine r_rInt1 ?_)
  | (with_reducible refine r_rIntB ?_)
  | (with_reducible refine r_rAbs ?_)
  | (with_reducible refine r_rMin2 ?_)
  | (with_reducible refine r_rMax2 ?_)
  | ((with_reducible refine r_rLenZ ?hz ?_); (case hz => first | assumption | exact Nat.le_of_ble_eq_true rfl | (refine Nat.le_trans ?_ (by decide : 100000 ≤ sizeLine); omega)))
  | ((with_reducible refine r_addZ ?hz ?_); (case hz => (refine Nat.le_trans ?_ (by decide : 100000 ≤ sizeLine); first | omega | (simp only [Str.length] at *; simp; omega))))
  | ((with_reducible refine r_mulZ ?hz ?h0 ?h1 ?_); (case hz => first | omega | exact Nat.le_of_ble_eq_true rfl); (case h0 => omega); (case h1 => omega))
  | ((with_reducible refine' r_rLenQ ?h1 ?_); (case h1 => first | (exact .inl (by assumption)) | (exact .inr (by assumption)) | (exact .inl (SqL.of (by walk_at "lk"))) | (exact .inr (SqT.of (by walk_at "lk")))))
  | ((with_reducible refine r_eq ?hs ?_); (case hs => exact rfl))
  | ((with_reducible refine r_ne ?hs ?_); (case hs => exact rfl))
  | (with_reducible refine r_inC ?_)
  | ((with_reducible refine' r_cat ?h1 ?h2 ?h3 ?_); (case h1 => walk_at "lk"); (case h2 => walk_at "lk"); (case h3 => exact Nat.le_of_ble_eq_true rfl); (intro p hp))
  | ((with_reducible refine' r_rep ?h1 ?h2 ?h3 ?h4 ?_); (case h1 => walk_at "lk"); (case h2 => omega); (case h3 => omega); (case h4 => exact Nat.le_of_ble_eq_true rfl); (intro p hp))
  | ((with_reducible refine' r_append ?h1 ?h2 ?_); (case h1 => walk_at "lk"); (case h2 => first | exact (show _ + 1 ≤ sizeLine from Nat.le_of_ble_eq_true rfl) | exact Nat.lt_of_le_of_lt (by omega : _ ≤ 100000) (by decide)))
  | (with_reducible refine r_bm ?_)
  | ((with_reducible refine' r_tyL ?h1 ?_); (case h1 => walk_at "lk"))
  | ((with_reducible refine' r_ixL ?h1 ?h2 ?_); (case h1 => first | assumption | exact SqL.of (by walk_at "lk")); (case h2 => exact rfl))
  | ((with_reducible refine' r_ixT ?h1 ?h2 ?_); (case h1 => first | assumption | exact SqT.of (by walk_at "lk")); (case h2 => exact rfl))
  | (with_reducible refine r_gsub ?_)
  | ((with_reducible refine' r_setL ?h1 ?h2 ?_); (case h1 => walk_at "lk"); (case h2 => exact rfl))
  | (with_reducible refine r_un ?_)
  | (with_reducible refine r_neg ?_)
  | (with_reducible refine r_iteT ?_)
  | (with_reducible refine r_iteNT ?_)
  | (with_reducible refine r_iteNF ?_)
  | (with_reducible refine r_iteF ?_)
  | (with_reducible refine r_next ?_)
  | (with_reducible refine r_drop ?_)
  | (with_reducible refine r_cont ?_)
  | (with_reducible refine r_brk ?_))
local macro_rules | `(tactic| walk_at "ty") => `(tactic| first
  | assumption
  | exact .base (.int _)
  | exact .base (.str _)
  | exact .base (.bl _)
  | exact .base .non
  | exact .byt _
  | exact .base (.lst (by walk_at "lk"))
  | exact .base (.tup (by walk_at "lk")))
local macro_rules | `(tactic| walk_at "rd2") => `(tactic| first
  | walk_at "rd1"
  | ((with_reducible refine' r_isi true ?ht ?hk ?_); (case ht => walk_at "ty"); (case hk => first | assumption | decide +kernel))
  | ((with_reducible refine' r_isi false ?ht ?hk ?_); (case ht => walk_at "ty"); (case hk => first | assumption | decide +kernel))
  | ((with_reducible refine' r_isiT2 true true ?hT ?ht ?hk ?hk2 ?_); (case hT => walk_at "lk"); (case ht => walk_at "ty"); (case hk => decide +kernel); (case hk2 => decide +kernel))
  | ((with_reducible refine' r_isiT2 true false ?hT ?ht ?hk ?hk2 ?_); (case hT => walk_at "lk"); (case ht => walk_at "ty"); (case hk => decide +kernel); (case hk2 => decide +kernel))
  | ((with_reducible refine' r_isiT2 false true ?hT ?ht ?hk ?hk2 ?_); (case hT => walk_at "lk"); (case ht => walk_at "ty"); (case hk => decide +kernel); (case hk2 => decide +kernel))
  | ((with_reducible refine' r_isiT2 false false ?hT ?ht ?hk ?hk2 ?_); (case hT => walk_at "lk"); (case ht => walk_at "ty"); (case hk => decide +kernel); (case hk2 => decide +kernel))
  | (with_reducible refine r_iteNT ?_)
  | ((show (if (!true) = true then _ else _)); refine r_iteNT ?_)
  | (with_reducible refine r_r1 ?_)
  | (with_reducible refine r_maks ?_)
  | (with_reducible refine r_sfld ?_)
  | ((with_reducible refine' r_sfldE ?h1 ?h2 ?h3 ?h4 ?_); (case h1 => walk_at "lk"); (case h2 => assumption); (case h3 => assumption); (case h4 => exact (show _ + 1 ≤ 1000 from Nat.le_of_ble_eq_true rfl)))
  | (with_reducible refine r_fld ?_)
  | (with_reducible refine r_join ?_)
  | (with_reducible refine r_jcons ?_)
  | (with_reducible refine r_jnil ?_)
  | ((with_reducible refine r_rLenY ?hz ?_); (case hz => first | assumption | (refine Nat.le_trans ?_ (by decide : 100000 ≤ sizeLine); omega)))
  | (with_reducible refine r_par ?_)
  | (with_reducible refine r_pair ?_)
  | (with_reducible refine r_par3 ?_)
  | (with_reducible refine r_trip ?_)
  | ((with_reducible refine' r_gtup ?h1 ?h2 ?_); (case h1 => first | assumption | exact SqT.of (by walk_at "lk")); (case h2 => exact rfl))
  | (with_reducible refine r_gcons ?_)
  | (with_reducible refine r_gnil ?_)
  | ((with_reducible refine' r_slL ?h1 ?_); (case h1 => first | assumption | exact SqL.of (by walk_at "lk")); (intro p hp))
  | (with_reducible refine r_iTup ?_)
  | ((with_reducible refine' r_tupE ?h1 ?_); (case h1 => first | assumption | exact SqT.of (by walk_at "lk")))
  | (with_reducible refine r_m1 ?_)
  | (with_reducible refine r_isZ ?_)
  | (with_reducible refine r_sl ?_)
  | (with_reducible refine r_noPart ?_)
  | (with_reducible refine r_part ?_)
  | (with_reducible refine r_partE ?_)
  | ((with_reducible refine r_slS ?hz ?_); (case hz => first | assumption | (refine Nat.le_trans ?_ (by decide : 100000 ≤ sizeLine); omega)))
  | ((with_reducible refine' r_inT ?h1 ?h2 ?h3 ?_); (case h1 => first | assumption | (exact SqT.of (by walk_at "lk"))); (case h2 => exact rfl); (case h3 => exact rfl))
  | ((with_reducible refine' r_inL ?h1 ?h2 ?h3 ?_); (case h1 => first | assumption | (exact SqL.of (by walk_at "lk"))); (case h2 => exact rfl); (case h3 => exact rfl))
  | (with_reducible refine r_lc ?_)
  | (with_reducible refine r_for ?_)
  | (with_reducible refine r_iStr ?_)
  | (with_reducible refine r_strE ?_)
  | (with_reducible refine r_iList ?_)
  | ((with_reducible refine' r_listE ?h1 ?_); (case h1 => first | assumption | exact SqL.of (by walk_at "lk")))
  | (with_reducible refine r_iRng1 ?_)
  | ((with_reducible refine' r_rngE ?h0 ?h1 ?_); (case h0 => first | omega | (split <;> omega)); (case h1 => first | omega | (split <;> omega))))
local macro_rules | `(tactic| walk_at "rd") => `(tactic| (repeat walk_at "rd2"))
local macro_rules | `(tactic| walk_at "st") => `(tactic| (repeat (first
  | (with_reducible refine r_gname ?_)
  | (with_reducible refine r_next ?_)
  | (with_reducible refine r_seq ?_)
  | (with_reducible refine r_asg ?_)
  | (with_reducible refine r_ret ?_)
  | (with_reducible refine r_for ?_)
  | (with_reducible refine r_iRng1 ?_)
  | (with_reducible refine r_iList ?_)
  | (with_reducible refine r_cons ?_)
  | (with_reducible refine r_par ?_)
  | (with_reducible refine r_par3 ?_))))
def rListB : List V → Hp → VK → Prop := fun xs H Q => ∃ b : List UInt8, xs = [.byt b.toArray] ∧ b.length ≤ 16777216 ∧ ∀ p, H p = none → Q (.ref p) (upd H p (.lst ((Bt.nums b).map V.int)))
theorem call_listBN {X : Cx} (hc : X.calm = true := by rfl) : CallR X (.type "list") rListB := Bt.call_listB hc
theorem nums_arr : ∀ {ns : List Int}, (∀ n ∈ ns, 0 ≤ n ∧ n < 256) → Bt.nums (ns.map fun n => n.toNat.toUInt8) = ns
  | [], _ => rfl
  | n :: ns, h => by
    have h0 := h n List.mem_cons_self
    have h1 := nums_arr fun m hm => h m (List.mem_cons_of_mem n hm)
    unfold Bt.nums at *
    rw [List.map_cons, List.map_cons, h1]
    congr 1
    show ((n.toNat.toUInt8.toNat : Nat) : Int) = n
    rw [Nat.toUInt8, UInt8.toNat_ofNat']
    omega
theorem r_listN {ns : List Int} {H : Hp} {Q : VK} (hn : ∀ n ∈ ns, 0 ≤ n ∧ n < 256) (hz : ns.length ≤ 1000) (q : ∀ p, H p = none → Q (.ref p) (upd H p (.lst (ns.map V.int)))) : rListB [.byt (byteArr ns)] H Q :=
  ⟨_, rfl, by rw [List.length_map]; omega, fun p hp => by rw [nums_arr hn]; exact q p hp⟩
theorem ints_data : ∀ ns : List Int, PyData.canLayAll0 (ns.map PyData.int) = true ∧ PyData.depthAll (ns.map PyData.int) = 0 ∧ PyData.eqvAll (ns.map PyData.int) (ns.map PyData.int) = true
  | [] => ⟨rfl, rfl, rfl⟩
  | n :: ns => by
    obtain ⟨a, b, c⟩ := ints_data ns
    rw [List.map_cons]
    refine ⟨?_, ?_, ?_⟩
    · simp only [PyData.canLayAll0, PyData.canLay0, a]; rfl
    · simp only [PyData.depthAll, PyData.depth, b]; rfl
    · simp only [PyData.eqvAll, PyData.eqv, c]; simp
theorem dpa_int2 {K : PySem.W.Frag} {H : Hp} : ∀ ns : List Int, DpAll K H (ns.map V.int) (ns.map PyData.int)
  | [] => .nil
  | n :: ns => .cons (.int n) (dpa_int2 ns)
theorem r_eqInts {K : PySem.W.Frag} {H : Hp} {Q : VK} {p q : Addr} {ns : List Int} (h1 : H p = some (.lst (ns.map V.int))) (h2 : H q = some (.lst (ns.map V.int))) (h : Q (.bl true) H) : rEqD K (.ref p) (.ref q) H Q := by
  obtain ⟨a, b, c⟩ := ints_data ns
  have sh : SeqAt.shaped (.list (ns.map PyData.int)) = true := by
    unfold SeqAt.shaped
    rw [show PyData.canLay0 (.list (ns.map PyData.int)) = true by simp only [PyData.canLay0]; exact a, Bool.true_and]
    exact decide_eq_true (by simp only [PyData.depth]; omega)
  refine ⟨.list (ns.map PyData.int), .list (ns.map PyData.int), .lst (SqL.of h1) (dpa_int2 ns), .lst (SqL.of h2) (dpa_int2 ns), sh, sh, ?_⟩
  have e : PyData.eqv (.list (ns.map PyData.int)) (.list (ns.map PyData.int)) = true := by simp only [PyData.eqv]; exact c
  rw [e]
  exact h
/-! ### the odd values, made -/
abbrev HE : Hp := fun _ => none
theorem mkt_blobT {H1 : Hp} {σ : L2.St} {te : TE} {t : Tr} (h : MkT HE H1 σ te t) (hs : t.small = true) (hr : t.rowB = true) : MkT HE H1 σ (tCall spBlobT [] E0 (tCons te tNil)) (.byt (byteArr t.row)) := fun H Q e k =>
  h H _ e fun v H2 e2 d => ⟨v, t, rfl, d, hs, hr, fun H3 e3 => k _ _ (e2.trans e3) (.byt _)⟩
theorem mkt_emp {H1 : Hp} {σ : L2.St} : MkT HE H1 σ tDNewK .emp := fun H Q e k p hp => k _ _ (same_new hp) (.emp upd_same)
theorem mkt_more {H1 : Hp} {σ : L2.St} {te : TE} {l : Addr} {xs : List V} {ts us : List Tr} (h1 : σ[1]? = some (some (.ref l))) (hl : H1 l = some (.lst xs)) (d : DnA H1 xs ts) (h : MkT HE H1 σ te (.lst us)) (hz : ts.length + us.length ≤ 1000) : MkT HE H1 σ (tOp rCat (tVar 1) te) (.lst (ts ++ us)) := fun H Q e k => by
  refine r_op (r_var h1 (h H _ e fun v G e2 dd => ?_))
  cases dd with
  | lst h2 d2 =>
    refine r_cat (e2 _ _ (e _ _ hl)) h2 (by rw [d.len, d2.len, sizeLine_eq]; omega) fun p hp => ?_
    exact k _ _ (e2.trans (same_new hp)) (.lst upd_same (DnA.same (fresh_up (same_new hp)) (dna_app (DnA.same (e.trans e2) d) d2)))
theorem mk_odd {H : Hp} {σ : L2.St} {Q : VK} {l : Addr} {ns : List Int} (h1 : σ[1]? = some (some (.ref l))) (hl : H l = some (.lst (ns.map V.int))) (hz : ns.length ≤ 10) (k : ∀ p xs G, Same H G → G p = some (.lst xs) → DnA G xs (oddTs ns) → Q (.ref p) G) :
    tLst (tCons (tC V.non) (tCons (tC (V.int 3)) (tCons (tC (V.bl true)) (tCons (tC (V.str (Str.ofString "a"))) (tCons (tTup (tCons (tC (V.int 256)) tNil)) (tCons (tLst (tCons (tUn (rU fun i => V.int (-i)) (tC (V.int 1))) tNil)) (tCons (tLst (tCons (tC (V.bl true)) tNil))
      (tCons (tLst (tCons (tC (V.str (Str.ofString "1"))) tNil)) (tCons (tLst (tCons (tLst (tCons (tC (V.int 1)) tNil)) tNil)) (tCons (tCall spBlobT [] E0 (tCons (tLst (tCons (tC (V.int 1)) tNil)) tNil)) (tCons tDNewK
      (tCons (tOp rCat (tVar 1) (tLst (tCons (tC (V.int 256)) tNil))) (tCons (tOp rCat (tVar 1) (tLst (tCons (tC V.non) tNil))) (tCons (tC (V.int 0)) tNil)))))))))))))) σ H Q := by
  have s : ∀ b, H b = none → HE b = none := fun _ _ => rfl
  have ml : ∀ {te : TE} {t : Tr}, MkT HE H σ te t → MkT HE H σ (tLst (tCons te tNil)) (.lst [t]) := fun h => mkt_lst s (mkta_cons h mkta_nil) (by simp)
  refine mkt_lst (H0 := HE) (H1 := H) (ts := oddTs ns) s (mkta_cons (mkt_c fun _ => .non) (mkta_cons (mi 3) (mkta_cons (mkt_c fun _ => .bl true) (mkta_cons (mkt_c fun _ => .str _) (mkta_cons (mt1 s (mi 256)) (mkta_cons (ml mkt_neg) (mkta_cons (ml (mkt_c fun _ => .bl true))
    (mkta_cons (ml (mkt_c fun _ => .str _)) (mkta_cons (ml (ml (mi 1))) (mkta_cons (mkt_blobT (t := .lst [.int 1]) (ml (mi 1)) (by decide) (by decide)) (mkta_cons mkt_emp
    (mkta_cons (mkt_more h1 hl (dna_int ns) (ml (mi 256)) (by simp; omega)) (mkta_cons (mkt_more h1 hl (dna_int ns) (ml (mkt_c fun _ => .non)) (by simp; omega)) (mkta_cons (mi 0) mkta_nil)))))))))))))) (by simp [oddTs]) H _ (Same.refl _) (fun v G e d => ?_)
  cases d with
  | lst h2 d2 => exact k _ _ G e h2 d2
theorem ints_small {ns : List Int} (hn : ∀ n ∈ ns, 0 ≤ n ∧ n < 256) (hz : ns.length ≤ 10) : Tr.small (.lst (ns.map Tr.int)) = true ∧ Tr.small (.tup (ns.map Tr.int)) = true := by
  obtain ⟨_, b, _⟩ := items_ok (ints_item hn)
  have h : (ns.map Tr.int).length ≤ 100 := by rw [List.length_map]; omega
  exact ⟨by simp only [Tr.small, b, decide_eq_true h]; rfl, by simp only [Tr.small, b, decide_eq_true h]; rfl⟩
theorem sp_blobL {l : Addr} {ns : List Int} {H : Hp} {Q : VK} {E : XK} (hl : H l = some (.lst (ns.map V.int))) (hn : ∀ n ∈ ns, 0 ≤ n ∧ n < 256) (hz : ns.length ≤ 10) (k : ∀ H', Same H H' → Q (.byt (byteArr ns)) H') : spBlobT ([.ref l] ++ []) H Q E :=
  ⟨_, .lst (ns.map Tr.int), rfl, .lst hl (dna_int ns), (ints_small hn hz).1, ints_within hn, fun H' e => by rw [show Tr.row (.lst (ns.map Tr.int)) = ns from nums_int ns]; exact k H' e⟩
theorem sp_blobTp {l : Addr} {ns : List Int} {H : Hp} {Q : VK} {E : XK} (hl : H l = some (.tup (ns.map V.int))) (hn : ∀ n ∈ ns, 0 ≤ n ∧ n < 256) (hz : ns.length ≤ 10) (k : ∀ H', Same H H' → Q (.byt (byteArr ns)) H') : spBlobT ([.ref l] ++ []) H Q E :=
  ⟨_, .tup (ns.map Tr.int), rfl, .tup hl (dna_int ns), (ints_small hn hz).2, ints_within hn, fun H' e => by rw [show Tr.row (.tup (ns.map Tr.int)) = ns from nums_int ns]; exact k H' e⟩
section
variable {P : Program} {w : World} {K : PySem.W.Frag} {mg : Str → Option Value} {base : Heap}
theorem ok_blobs {f : Addr} {fd : FuncData} {T : List (Addr × Str)} (F : Fun K "_law_blobs_right" "_law_blobs_right" s__law_blobs_right f fd) (m1 : mg "range" = none) (m2 : mg "repr" = none) (m3 : mg "list" = none) (m4 : mg "tuple" = none) (m5 : mg "len" = none)
    (c_draw : CalT P w K mg base 2 "_law_draw" spDraw) (c_blob : CalT P w K mg base 4 "blob" spBlobT) (c_blob_k : CalK P w K mg base 4 "blob" ["numbers"] spBlobT) (g_berr : CalG P w K mg base 11 "_law_blob_error" spBErr) :
    FnG P w K mg base 17 f fd ["_law_source_here"] (spLinks T) := by
  refine Fun.okG (k := 16) F sc__law_blobs_right (fun vs H Q E h => ?_) (fun cdv A outer s H vs Q E hr gd0 h => ?_)
  · obtain ⟨a, rfl, _⟩ := h
    rfl
  · obtain ⟨a, rfl, hs, tabs, q⟩ := h
    have hu := hu_of hr
    have hu64 : (A.deeper (envOfC "_law_blobs_right" (defScope s__law_blobs_right) s.heap.objs.size f cdv)).units + 64 < cLine := by have := hr.un; omega
    have gd : (A.deeper (envOfC "_law_blobs_right" (defScope s__law_blobs_right) s.heap.objs.size f cdv)).guards = some [] := gd0
    have nd := sc__law_blobs_right.nd
    refine ⟨_, (pss_cons (ps_setLc (i := 1) (own := [("_law_turn", 3)]) (g := (gName 3)) (tt := tYes) rfl nd rfl rfl (sw_true rfl rfl rfl (by decide +kernel)) (pi_range1 (by rfl) (by assumption) (pa_cons (pe_cc c_draw hr (by omega) (by rfl) (pa_cons (pv 0) (pa_cons pe_int pa_nil))) pa_nil)) (blkOk_by (N := N__law_blobs_right) (sc := defScope s__law_blobs_right) (by decide +kernel)) (fun _ _ _ _ _ => (pg_name (i := 3) nd rfl (Or.inl rfl))) (fun _ _ _ _ _ => pts_nil) (fun _ _ _ _ _ => (pe_cc c_draw hr (by omega) (by rfl) (pa_cons (pv 0) (pa_cons pe_int pa_nil)))))
      (pss_cons (ps_set (i := 2) nd rfl (Or.inl rfl) (pe_lst (pa_cons pe_non (pa_cons pe_int (pa_cons pe_bl (pa_cons pe_str (pa_cons (pe_tup (pa_cons pe_int pa_nil)) (pa_cons (pe_lst (pa_cons (pe_un un_neg pe_int) pa_nil)) (pa_cons (pe_lst (pa_cons pe_bl pa_nil)) (pa_cons (pe_lst (pa_cons pe_str pa_nil)) (pa_cons (pe_lst (pa_cons (pe_lst (pa_cons pe_int pa_nil)) pa_nil)) (pa_cons (pe_cc c_blob hr (by omega) (by rfl) (pa_cons (pe_lst (pa_cons pe_int pa_nil)) pa_nil)) (pa_cons pe_dnewK (pa_cons (pe_op op_cat (pv 1) (pe_lst (pa_cons pe_int pa_nil))) (pa_cons (pe_op op_cat (pv 1) (pe_lst (pa_cons pe_non pa_nil))) (pa_cons pe_int pa_nil))))))))))))))))
      (pss_cons (ps_if (pt_cmpR (op_neD hu64) (pe_lc (own := [("_law_value", 4)]) (g := (gName 4)) (tt := tYes) rfl nd (pi_list (pv 2)) (blkOk_by (N := N__law_blobs_right) (sc := defScope s__law_blobs_right) (by decide +kernel)) (fun _ _ _ _ _ => (pg_name (i := 4) nd rfl (Or.inl rfl))) (fun _ _ _ _ _ => pts_nil) (fun _ _ _ _ _ => (pe_ccG g_berr gd hr (by omega) (by rfl) (pa_cons (pv 4) pa_nil)))) (pe_lc (own := [("_law_value", 4)]) (g := (gName 4)) (tt := tYes) rfl nd (pi_list (pv 2)) (blkOk_by (N := N__law_blobs_right) (sc := defScope s__law_blobs_right) (by decide +kernel)) (fun _ _ _ _ _ => (pg_name (i := 4) nd rfl (Or.inl rfl))) (fun _ _ _ _ _ => pts_nil) (fun _ _ _ _ _ => (pe_lst (pa_cons (pe_callB (call_rReprT gd hu64) (by rfl) (by assumption) (by decide +kernel) (pa_cons (pv 4) pa_nil)) (pa_cons pe_bl pa_nil))))) (nomark _))
        (pss_one (ps_ret pe_bl))
        pss_nil)
      (pss_one (ps_ret (pe_and (pe_cmpR (op_eqD hu64) (pe_callTy call_listBN (by rfl) (by assumption) (by decide +kernel) (pa_cons (pe_cc c_blob hr (by omega) (by rfl) (pa_cons (pv 1) pa_nil)) pa_nil)) (pv 1) (nomark _)) (pe_and (pe_cmpR op_eq (pe_ck0 c_blob_k hr (by omega) (by rfl) (pk_cons (pe_tupleOf (by rfl) (by assumption) (pv 1)) pk_nil)) (pe_cc c_blob hr (by omega) (by rfl) (pa_cons (pv 1) pa_nil)) (nomark _)) (pe_one (pe_cmpR op_eq (pe_callB call_rLenY (by rfl) (by assumption) (by decide +kernel) (pa_cons (pe_cc c_blob hr (by omega) (by rfl) (pa_cons (pe_tup pa_nil) pa_nil)) pa_nil)) pe_int (nomark _)))))))))), ?_⟩
    walk_at "rd"
    refine sp_draw hs (by decide) (by decide) (fun j H1 j0 j1 hs1 hb1 => ?_)
    walk_at "rd"
    intro D hD
    refine lc_it (walk_range (lo := 0) (n := j.toNat)) (fun i H' => ∃ ns : List Int, H' D = some (.lst (ns.map V.int)) ∧ ns.length = i ∧ (∀ n ∈ ns, 0 ≤ n ∧ n < 256) ∧ Src H' a ∧ But a H1 H') ⟨[], upd_same, rfl, (fun _ h => nomatch h), hs1.new hD, Same.but (same_new hD)⟩ (fun _ _ _ _ => True.intro) ?_ ?_
    · rintro i x Hc H' hi ⟨ns, hb, hl, hv, sc, bc⟩ ⟨rfl, hx⟩
      walk_at "rd"
      refine ⟨rfl, ?_⟩
      unfold tYes
      dsimp only
      rw [if_pos rfl]
      walk_at "rd"
      refine sp_draw sc (by decide) (by decide) (fun d H2 d0 d1 s2 b2 => ?_)
      have nD : D ≠ a := hs1.ne hD
      obtain ⟨l, m, c, hsa, hsb⟩ := s2
      refine ⟨_, b2 _ _ nD hb, by rw [List.length_map, hl, sizeLine_eq]; omega, ns ++ [d], by rw [upd_same, List.map_append]; rfl, by simp [hl], fun n hn => ?_, ⟨l, m, c, (upd_ne nD.symm).trans hsa, hsb⟩, fun b o nb eb => ?_⟩
      · rcases List.mem_append.mp hn with h | h
        · exact hv n h
        · rw [List.mem_singleton.mp h]
          exact ⟨d0, d1⟩
      · rw [upd_ne (ne_of_none eb hD)]
        exact b2 _ _ nb (bc _ _ nb eb)
    · rintro H2 ⟨ns, hb, hl, hv, s2, b2⟩
      have hl10 : ns.length ≤ 10 := by omega
      have b02 : But a H H2 := hb1.trans b2
      have t2 : LamX.Tabs T H2 := Tabs.but tabs hs b02
      (with_reducible refine r_gname ?_)
      (with_reducible refine r_seq ?_)
      (with_reducible refine r_asg ?_)
      refine mk_odd rfl hb hl10 (fun p xs G e hp dx => ?_)
      (with_reducible refine r_gname ?_)
      have ok8 := odd_all hv hl10
      have hlx : xs.length = (oddTs ns).length := dx.len
      walk_at "rd"
      intro D1 hD1
      refine lc_it (walk_list (xs := xs)) (fun i H' => Same G H' ∧ ∃ ps, H' D1 = some (.lst ps) ∧ Rows8 (fresh (upd G D1 (.lst [])) H') ps ((oddTs ns).take i)) ⟨same_new hD1, [], upd_same, .nil⟩ (fun i H' _ ⟨e1, _⟩ => SqL.of (e1 _ _ hp)) ?_ ?_
      · rintro i v Hc H' hi ⟨e1, ps, hb1, r1⟩ ⟨rfl, hv1⟩
        obtain ⟨t1, ht1, dt⟩ := dx.at hv1
        obtain ⟨o1, o2, o3⟩ := ok8 t1 (List.mem_of_getElem? ht1)
        walk_at "rd"
        refine ⟨rfl, ?_⟩
        unfold tYes
        dsimp only
        rw [if_pos rfl]
        walk_at "rd"
        refine ⟨v, t1, rfl, Dn.same e1 dt, o1, o3, fun p1 H4 hp1 e4 at1 => ?_⟩
        have lr := r1.len
        refine ⟨_, e4 _ _ hb1, by rw [lr, List.length_take]; exact Nat.lt_of_le_of_lt (Nat.min_le_right _ _) (by show 14 < sizeLine; decide), fun b o eo => ?_, ps ++ [.ref p1], upd_same, ?_⟩
        · rw [upd_ne (ne_of_none eo hD1)]
          exact e4 _ _ (e1 _ _ eo)
        · rw [take_snocT ht1]
          have np1 : p1 ≠ D1 := fun z => by rw [z, hb1] at hp1; cases hp1
          have g1 : upd G D1 (.lst []) p1 = none := by
            rw [upd_ne np1]
            exact none_same e1 hp1
          refine Rows8.snoc (Rows8.same (fun b o eo => ?_) r1) ((fresh_at g1).trans ((upd_ne np1).trans at1))
          have nb : b ≠ D1 := fun z => by rw [z] at eo; exact absurd (fresh_none eo) (by rw [upd_same]; exact fun z => nomatch z)
          have fb := fresh_none eo
          rw [fresh_at fb, upd_ne nb]
          exact e4 _ _ (fresh_sub _ _ eo)
      · rintro H3 ⟨e1, ps, hb1, r1⟩
        rw [hlx, List.take_length] at r1
        have R1 : Rows8 H3 ps (oddTs ns) := Rows8.same fresh_sub r1
        clear r1
        have hp3 := e1 _ _ hp
        have dx3 := DnA.same e1 dx
        walk_at "rd"
        intro D2 hD2
        refine lc_it (walk_list (xs := xs)) (fun i H' => Same H3 H' ∧ ∃ ps, H' D2 = some (.lst ps) ∧ Rows8 (fresh (upd H3 D2 (.lst [])) H') ps ((oddTs ns).take i)) ⟨same_new hD2, [], upd_same, .nil⟩ (fun i H' _ ⟨e1, _⟩ => SqL.of (e1 _ _ hp3)) ?_ ?_
        · rintro i v Hc H' hi ⟨e2, qs, hb2, r2⟩ ⟨rfl, hv1⟩
          obtain ⟨t1, ht1, dt⟩ := dx3.at hv1
          obtain ⟨o1, o2, o3⟩ := ok8 t1 (List.mem_of_getElem? ht1)
          walk_at "rd"
          refine ⟨rfl, ?_⟩
          unfold tYes
          dsimp only
          rw [if_pos rfl]
          walk_at "rd"
          refine r_reprT (Dn.same e2 dt) o1 ?_
          walk_at "rd"
          rename_i p1 hp1
          have lr := r2.len
          have np1 : p1 ≠ D2 := fun z => by rw [z, hb2] at hp1; cases hp1
          refine ⟨_, upd_old hp1 hb2, by rw [lr, List.length_take]; exact Nat.lt_of_le_of_lt (Nat.min_le_right _ _) (by show 14 < sizeLine; decide), fun b o eo => ?_, qs ++ [.ref p1], upd_same, ?_⟩
          · rw [upd_ne (ne_of_none eo hD2)]
            exact upd_old hp1 (e2 _ _ eo)
          · rw [take_snocT ht1]
            have g1 : upd H3 D2 (.lst []) p1 = none := by
              rw [upd_ne np1]
              exact none_same e2 hp1
            refine Rows8.snoc (Rows8.same (fun b o eo => ?_) r2) ((fresh_at g1).trans ((upd_ne np1).trans upd_same))
            have nb : b ≠ D2 := fun z => by rw [z] at eo; exact absurd (fresh_none eo) (by rw [upd_same]; exact fun z => nomatch z)
            have fb := fresh_none eo
            rw [fresh_at fb, upd_ne nb]
            exact upd_old hp1 (fresh_sub _ _ eo)
        · rintro H5 ⟨e2, qs, hb2, r2⟩
          rw [hlx, List.take_length] at r2
          have R2 : Rows8 H5 qs (oddTs ns) := Rows8.same fresh_sub r2
          refine r_neRows (e2 _ _ hb1) hb2 (R1.same e2) R2 (fun t ht => (ok8 t ht).2.1) ?_
          walk_at "rd"
          have hb5 : H5 D = some (.lst (ns.map V.int)) := e2 _ _ (e1 _ _ (e _ _ hb))
          refine sp_blobL hb5 hv hl10 (fun H6 e6 => ?_)
          walk_at "rd"
          refine r_listN hv (by omega) (fun p6 hp6 => ?_)
          walk_at "rd"
          have hb6 := e6 _ _ hb5
          refine r_eqInts upd_same (upd_old hp6 hb6) ?_
          walk_at "rd"
          refine r_then ?_
          walk_at "rd"
          refine .inl ⟨D, _, rfl, SqL.of (upd_old hp6 hb6), fun p7 hp7 => ?_⟩
          walk_at "rd"
          refine ⟨rfl, rfl, sp_blobTp upd_same hv hl10 (fun H7 e7 => ?_)⟩
          walk_at "rd"
          have hb7 : H7 D = some (.lst (ns.map V.int)) := e7 _ _ (upd_old hp7 (upd_old hp6 hb6))
          refine sp_blobL hb7 hv hl10 (fun H8 e8 => ?_)
          refine r_eq rfl ?_
          rw [decide_eq_true rfl]
          walk_at "rd"
          rename_i p9 hp9
          refine ⟨_, .tup [], rfl, .tup upd_same .nil, rfl, rfl, fun H9 e9 => ?_⟩
          walk_at "rd"
          have ee : Same H2 H9 := (((((e.trans e1).trans e2).trans e6).trans (same_new hp6)).trans (same_new hp7)).trans ((e7.trans e8).trans ((same_new hp9).trans e9))
          refine ⟨_, rfl, Nat.zero_le _, ?_⟩
          show tC (V.int 0) _ _ _
          refine r_c ?_
          refine r_eq rfl ?_
          exact q _ (s2.same ee) (LamX.Tabs.ext t2 ee) (But.n (b02.trans (Same.but ee)))
end
end Th
namespace Th
open PySem PySem.Spec PyProof.Rows L2
local macro_rules | `(tactic| walk_at "lk") => `(tactic| first
  | assumption
  | exact upd_same
  | (refine upd_old (by assumption) ?_; walk_at "lk")
  | (refine upd_diff (by assumption) ?_; walk_at "lk")
  | (refine upd_diff (Ne.symm (by assumption)) ?_; walk_at "lk"))
local macro_rules | `(tactic| walk_at "cnd") => `(tactic| first
  | omega
  | (refine ⟨by omega, by omega⟩)
  | (refine ⟨by omega, by omega, by omega⟩)
  | (refine .inl ⟨by omega, by omega⟩)
  | (refine .inr ⟨by omega, by omega⟩)
  | (exact (show CPow _ _ from ⟨by decide, by decide, by omega⟩))
  | decide +kernel
  | (unfold CMulW; decide +kernel)
  | (exact wide_div (b := 64) (by omega) (by omega) (by decide) (by decide)))
local macro_rules | `(tactic| walk_at "rd1") => `(tactic| first
  | (with_reducible refine r_seq ?_)
  | (with_reducible refine r_asg ?_)
  | (with_reducible refine r_ret ?_)
  | (with_reducible refine r_if ?_)
  | (with_reducible refine r_gname ?_)
  | ((with_reducible refine' r_var ?hv ?_); (case hv => exact rfl))
  | (with_reducible refine r_c ?_)
  | (with_reducible refine r_op ?_)
  | (with_reducible refine r_I0 ?_)
  | ((with_reducible refine r_I ?hc ?_); (case hc => walk_at "cnd"))
  | (with_reducible refine r_test ?_)
  | (with_reducible refine r_tB ?_)
  | (with_reducible refine r_bl ?_)
  | (with_reducible refine r_not ?_)
  | (with_reducible refine r_and ?_)
  | (with_reducible refine r_or ?_)
  | (with_reducible refine r_ifE ?_)
  | (with_reducible refine r_notV ?_)
  | (with_reducible refine r_andV ?_)
  | (with_reducible refine r_orV ?_)
  | (with_reducible refine r_chain ?_)
  | (with_reducible refine r_cb ?_)
  | (with_reducible refine r_call ?_)
  | (with_reducible refine r_callN ?_)
  | (with_reducible refine r_nil ?_)
  | (with_reducible refine r_cons ?_)
  | ((with_reducible refine r_lst ?_))
  | ((with_reducible refine r_tup ?_))
  | ((with_reducible refine r_new ?_ ?_); (exact Nat.le_of_ble_eq_true rfl); (intro p hp))
  | (with_reducible refine r_rInt1 ?_)
  | (with_reducible refine r_rIntB ?_)
  | (with_reducible refine r_rAbs ?_)
  | (with_reducible refine r_rMin2 ?_)
  | (with_reducible refine r_rMax2 ?_)
  | ((with_reducible refine r_rLenZ ?hz ?_); (case hz => first | assumption | exact Nat.le_of_ble_eq_true rfl | (refine Nat.le_trans ?_ (by decide : 100000 ≤ sizeLine); omega)))
  | ((with_reducible refine r_addZ ?hz ?_); (case hz => (refine Nat.le_trans ?_ (by decide : 100000 ≤ sizeLine); first | omega | (simp only [Str.length] at *; simp; omega))))
  | ((with_reducible refine r_mulZ ?hz ?h0 ?h1 ?_); (case hz => first | omega | exact Nat.le_of_ble_eq_true rfl); (case h0 => omega); (case h1 => omega))
  | ((with_reducible refine' r_rLenQ ?h1 ?_); (case h1 => first | (exact .inl (by assumption)) | (exact .inr (by assumption)) | (exact .inl (SqL.of (by walk_at "lk"))) | (exact .inr (SqT.of (by walk_at "lk")))))
  | ((with_reducible refine r_eq ?hs ?_); (case hs => exact rfl))
  | ((with_reducible refine r_ne ?hs ?_); (case hs => exact rfl))
  | (with_reducible refine r_inC ?_)
  | ((with_reducible refine' r_cat ?h1 ?h2 ?h3 ?_); (case h1 => walk_at "lk"); (case h2 => walk_at "lk"); (case h3 => exact Nat.le_of_ble_eq_true rfl); (intro p hp))
  | ((with_reducible refine' r_rep ?h1 ?h2 ?h3 ?h4 ?_); (case h1 => walk_at "lk"); (case h2 => omega); (case h3 => omega); (case h4 => exact Nat.le_of_ble_eq_true rfl); (intro p hp))
  | ((with_reducible refine' r_append ?h1 ?h2 ?_); (case h1 => walk_at "lk"); (case h2 => first | exact (show _ + 1 ≤ sizeLine from Nat.le_of_ble_eq_true rfl) | exact Nat.lt_of_le_of_lt (by omega : _ ≤ 100000) (by decide)))
  | (with_reducible refine r_bm ?_)
  | ((with_reducible refine' r_tyL ?h1 ?_); (case h1 => walk_at "lk"))
  | ((with_reducible refine' r_ixL ?h1 ?h2 ?_); (case h1 => first | assumption | exact SqL.of (by walk_at "lk")); (case h2 => exact rfl))
  | ((with_reducible refine' r_ixT ?h1 ?h2 ?_); (case h1 => first | assumption | exact SqT.of (by walk_at "lk")); (case h2 => exact rfl))
  | (with_reducible refine r_gsub ?_)
  | ((with_reducible refine' r_setL ?h1 ?h2 ?_); (case h1 => walk_at "lk"); (case h2 => exact rfl))
  | (with_reducible refine r_un ?_)
  | (with_reducible refine r_neg ?_)
  | (with_reducible refine r_iteT ?_)
  | (with_reducible refine r_iteNT ?_)
  | (with_reducible refine r_iteNF ?_)
  | (with_reducible refine r_iteF ?_)
  | (with_reducible refine r_next ?_)
  | (with_reducible refine r_drop ?_)
  | (with_reducible refine r_cont ?_)
  | (with_reducible refine r_brk ?_))
local macro_rules | `(tactic| walk_at "ty") => `(tactic| first
  | assumption
  | exact .base (.int _)
  | exact .base (.str _)
  | exact .base (.bl _)
  | exact .base .non
  | exact .byt _
  | exact .base (.lst (by walk_at "lk"))
  | exact .base (.tup (by walk_at "lk")))
local macro_rules | `(tactic| walk_at "rd2") => `(tactic| first
  | walk_at "rd1"
  | ((with_reducible refine' r_isi true ?ht ?hk ?_); (case ht => walk_at "ty"); (case hk => first | assumption | decide +kernel))
  | ((with_reducible refine' r_isi false ?ht ?hk ?_); (case ht => walk_at "ty"); (case hk => first | assumption | decide +kernel))
  | ((with_reducible refine' r_isiT2 true true ?hT ?ht ?hk ?hk2 ?_); (case hT => walk_at "lk"); (case ht => walk_at "ty"); (case hk => decide +kernel); (case hk2 => decide +kernel))
  | ((with_reducible refine' r_isiT2 true false ?hT ?ht ?hk ?hk2 ?_); (case hT => walk_at "lk"); (case ht => walk_at "ty"); (case hk => decide +kernel); (case hk2 => decide +kernel))
  | ((with_reducible refine' r_isiT2 false true ?hT ?ht ?hk ?hk2 ?_); (case hT => walk_at "lk"); (case ht => walk_at "ty"); (case hk => decide +kernel); (case hk2 => decide +kernel))
  | ((with_reducible refine' r_isiT2 false false ?hT ?ht ?hk ?hk2 ?_); (case hT => walk_at "lk"); (case ht => walk_at "ty"); (case hk => decide +kernel); (case hk2 => decide +kernel))
  | (with_reducible refine r_iteNT ?_)
  | ((show (if (!true) = true then _ else _)); refine r_iteNT ?_)
  | (with_reducible refine r_r1 ?_)
  | (with_reducible refine r_maks ?_)
  | (with_reducible refine r_sfld ?_)
  | ((with_reducible refine' r_sfldE ?h1 ?h2 ?h3 ?h4 ?_); (case h1 => walk_at "lk"); (case h2 => assumption); (case h3 => assumption); (case h4 => exact (show _ + 1 ≤ 1000 from Nat.le_of_ble_eq_true rfl)))
  | (with_reducible refine r_fld ?_)
  | (with_reducible refine r_join ?_)
  | (with_reducible refine r_jcons ?_)
  | (with_reducible refine r_jnil ?_)
  | ((with_reducible refine r_rLenY ?hz ?_); (case hz => first | assumption | (refine Nat.le_trans ?_ (by decide : 100000 ≤ sizeLine); omega)))
  | (with_reducible refine r_par ?_)
  | (with_reducible refine r_pair ?_)
  | (with_reducible refine r_par3 ?_)
  | (with_reducible refine r_trip ?_)
  | ((with_reducible refine' r_gtup ?h1 ?h2 ?_); (case h1 => first | assumption | exact SqT.of (by walk_at "lk")); (case h2 => exact rfl))
  | (with_reducible refine r_gcons ?_)
  | (with_reducible refine r_gnil ?_)
  | ((with_reducible refine' r_slL ?h1 ?_); (case h1 => first | assumption | exact SqL.of (by walk_at "lk")); (intro p hp))
  | (with_reducible refine r_iTup ?_)
  | ((with_reducible refine' r_tupE ?h1 ?_); (case h1 => first | assumption | exact SqT.of (by walk_at "lk")))
  | (with_reducible refine r_m1 ?_)
  | (with_reducible refine r_isZ ?_)
  | (with_reducible refine r_sl ?_)
  | (with_reducible refine r_noPart ?_)
  | (with_reducible refine r_part ?_)
  | (with_reducible refine r_partE ?_)
  | ((with_reducible refine r_slS ?hz ?_); (case hz => first | assumption | (refine Nat.le_trans ?_ (by decide : 100000 ≤ sizeLine); omega)))
  | ((with_reducible refine' r_inT ?h1 ?h2 ?h3 ?_); (case h1 => first | assumption | (exact SqT.of (by walk_at "lk"))); (case h2 => exact rfl); (case h3 => exact rfl))
  | ((with_reducible refine' r_inL ?h1 ?h2 ?h3 ?_); (case h1 => first | assumption | (exact SqL.of (by walk_at "lk"))); (case h2 => exact rfl); (case h3 => exact rfl))
  | (with_reducible refine r_lc ?_)
  | (with_reducible refine r_for ?_)
  | (with_reducible refine r_iStr ?_)
  | (with_reducible refine r_strE ?_)
  | (with_reducible refine r_iList ?_)
  | ((with_reducible refine' r_listE ?h1 ?_); (case h1 => first | assumption | exact SqL.of (by walk_at "lk")))
  | (with_reducible refine r_iRng1 ?_)
  | ((with_reducible refine' r_rngE ?h0 ?h1 ?_); (case h0 => first | omega | (split <;> omega)); (case h1 => first | omega | (split <;> omega))))
local macro_rules | `(tactic| walk_at "rd") => `(tactic| (repeat walk_at "rd2"))
local macro_rules | `(tactic| walk_at "st") => `(tactic| (repeat (first
  | (with_reducible refine r_gname ?_)
  | (with_reducible refine r_next ?_)
  | (with_reducible refine r_seq ?_)
  | (with_reducible refine r_asg ?_)
  | (with_reducible refine r_ret ?_)
  | (with_reducible refine r_for ?_)
  | (with_reducible refine r_iRng1 ?_)
  | (with_reducible refine r_iList ?_)
  | (with_reducible refine r_cons ?_)
  | (with_reducible refine r_par ?_)
  | (with_reducible refine r_par3 ?_))))
open LamX (Tabs TabB ExtN)
/-- the script's list, for good -/
def ScA (K : PySem.W.Frag) (a : Addr) (ns : List Int) (H : Hp) : Prop := (∀ G, SqL K G a (ns.map V.int)) ∨ ∃ o, H a = some o ∧ (∀ ps, o ≠ .tbl ps) ∧ ∀ G : Hp, G a = some o → SqL K G a (ns.map V.int)
def ScB (K : PySem.W.Frag) (a : Addr) (ns : List Int) (p : Addr) (H : Hp) : Prop := (∀ G, SqL K G a (ns.map V.int)) ∨ (a ≠ p ∧ ∃ o, H a = some o ∧ (∀ ps, o ≠ .tbl ps) ∧ ∀ G : Hp, G a = some o → SqL K G a (ns.map V.int))
theorem ScA.of {K : PySem.W.Frag} {a : Addr} {ns : List Int} {H : Hp} (h : SqL K H a (ns.map V.int)) : ScA K a ns H := by
  rcases h with h | h
  · rcases h with h | ⟨o, h⟩
    · exact .inr ⟨_, h, (fun _ z => nomatch z), fun G e => .inl (.inl e)⟩
    · exact .inr ⟨_, h, (fun _ z => nomatch z), fun G e => .inl (.inr ⟨o, e⟩)⟩
  · exact .inl fun G => .inr h
theorem ScA.sq {K : PySem.W.Frag} {a : Addr} {ns : List Int} {H : Hp} (h : ScA K a ns H) : SqL K H a (ns.map V.int) := by
  rcases h with h | ⟨o, e, _, k⟩
  · exact h _
  · exact k _ e
theorem ScA.src {K : PySem.W.Frag} {a p : Addr} {ns : List Int} {H H1 : Hp} (h : ScA K a ns H) (hp : H p = none) (e : Same H H1) : ScB K a ns p H1 := by
  rcases h with h | ⟨o, eo, n, k⟩
  · exact .inl h
  · exact .inr ⟨ne_of_none eo hp, o, e _ _ eo, n, k⟩
theorem ScB.but {K : PySem.W.Frag} {a p : Addr} {ns : List Int} {H H1 : Hp} (h : ScB K a ns p H) (b : ButN p H H1) : ScB K a ns p H1 := by
  rcases h with h | ⟨np, o, eo, n, k⟩
  · exact .inl h
  · exact .inr ⟨np, o, b _ _ np eo n, n, k⟩
theorem ScB.a {K : PySem.W.Frag} {a p : Addr} {ns : List Int} {H : Hp} (h : ScB K a ns p H) : ScA K a ns H := by
  rcases h with h | ⟨np, o, eo, n, k⟩
  · exact .inl h
  · exact .inr ⟨o, eo, n, k⟩
def spLawT (K : PySem.W.Frag) (T : List (Addr × Str)) : Sp := fun vs H Q _ => ∃ (a : Addr) (ns : List Int), vs = [.ref a] ∧ SqL K H a (ns.map V.int) ∧ ns.length ≤ 63 ∧ Tabs T H ∧ ∀ H', Q (.bl true) H'
section
variable {P : Program} {w : World} {K : PySem.W.Frag} {mg : Str → Option Value} {base : Heap}
theorem ok_law {f : Addr} {fd : FuncData} {T : List (Addr × Str)} (F : Fun K "law" "law" s_law f fd) (m1 : mg "range" = none) (m2 : mg "max" = none) (m3 : mg "min" = none) (m4 : mg "len" = none)
    (c_source : CalT P w K mg base 2 "_law_source" (spSource K)) (g_blobs : CalG P w K mg base 17 "_law_blobs_right" (spLinks T)) (g_links : CalG P w K mg base 17 "_law_links_right" (spLinks T)) (g_files : CalG P w K mg base 17 "_law_files_right" (spLinks T)) :
    FnG P w K mg base 18 f fd ["_law_script"] (spLawT K T) := by
  refine Fun.okG (k := 17) F sc_law (fun vs H Q E h => ?_) (fun cdv A outer s H vs Q E hr gd0 h => ?_)
  · obtain ⟨a, ns, rfl, _⟩ := h
    rfl
  · obtain ⟨a, ns, rfl, hS, hz, tabs, q⟩ := h
    have hu := hu_of hr
    have gd : (A.deeper (envOfC "law" (defScope s_law) s.heap.objs.size f cdv)).guards = some [] := gd0
    have nd := sc_law.nd
    refine ⟨_, (pss_cons (ps_for PassesOwn.never rfl (pi_range1 (by rfl) (by assumption) (pa_cons (pe_callB call_rMax2 (by rfl) (by assumption) (by decide +kernel) (pa_cons pe_int (pa_cons (pe_callB call_rMin2 (by rfl) (by assumption) (by decide +kernel) (pa_cons pe_int (pa_cons (pe_callB (call_lenK K) (by rfl) (by assumption) (by decide +kernel) (pa_cons (pv 0) pa_nil)) pa_nil))) pa_nil))) pa_nil)) (pg_name (i := 1) nd rfl (Or.inl rfl))
        (pss_cons (ps_set (i := 2) nd rfl (Or.inl rfl) (pe_cc c_source hr (by omega) (by rfl) (pa_cons (pv 0) (pa_cons (pv 1) pa_nil))))
      (pss_cons (ps_if (pt_not (pt_val (pe_ccG g_blobs gd hr (by omega) (by rfl) (pa_cons (pv 2) pa_nil))))
        (pss_one (ps_ret pe_bl))
        pss_nil)
      (pss_one (ps_for PassesOwn.never rfl (pi_range1 (by rfl) (by assumption) (pa_cons pe_int pa_nil)) (pg_name (i := 3) nd rfl (Or.inl rfl))
        (pss_one (ps_if (PW.pt (pw_or (pt_not (pt_val (pe_ccG g_links gd hr (by omega) (by rfl) (pa_cons (pv 2) pa_nil)))) (pw_or1 (pt_not (pt_val (pe_ccG g_files gd hr (by omega) (by rfl) (pa_cons (pv 2) pa_nil)))))))
        (pss_one (ps_ret pe_bl))
        pss_nil)))))))
      (pss_one (ps_ret pe_bl))), ?_⟩
    have hml : (ns.map V.int).length = ns.length := List.length_map ..
    walk_at "rd"
    refine for_it (walk_range (lo := 0) (n := _)) (fun i σ H' => ∃ v1 v2 v3 : Option V, σ = [some (.ref a), v1, v2, v3] ∧ ScA K a ns H' ∧ Tabs T H') ?_ (fun _ _ _ _ _ => True.intro) ?_ ?_
    · exact ⟨_, _, _, rfl, ScA.of hS, tabs⟩
    · rintro i x σ Hc H' hi ⟨v1, v2, v3, rfl, eS, eT⟩ ⟨rfl, hx⟩
      simp only [Int.zero_add] at hx
      subst hx
      have hi4 : i ≤ 63 := by
        revert hi
        split
        · split <;> omega
        · omega
      walk_at "rd"
      refine sp_source eS.sq hz hi4 (fun p H1 hp e1 hs1 => ?_)
      walk_at "rd"
      refine ⟨p, rfl, hs1, LamX.Tabs.ext eT e1, fun H2 s2 t2 b2 => ?_⟩
      have B2 := (eS.src hp e1).but b2
      walk_at "rd"
      refine for_it (walk_range (lo := 0) (n := _)) (fun j σ H' => ∃ v3 : Option V, σ = [some (.ref a), some (.int (i : Int)), some (.ref p), v3] ∧ ScB K a ns p H' ∧ Src H' p ∧ Tabs T H') ?_ (fun _ _ _ _ _ => True.intro) ?_ ?_
      · exact ⟨_, rfl, B2, s2, t2⟩
      · rintro j x σ Hc H' hj ⟨v3, rfl, eB, sB, tB⟩ ⟨rfl, hx⟩
        subst hx
        walk_at "rd"
        refine ⟨p, rfl, sB, tB, fun H3 s3 t3 b3 => ?_⟩
        walk_at "rd"
        refine ⟨p, rfl, s3, t3, fun H4 s4 t4 b4 => ?_⟩
        walk_at "rd"
        exact ⟨_, rfl, (eB.but b3).but b4, s4, t4⟩
      · rintro σ H5 ⟨v3, rfl, eB, sB, tB⟩
        exact ⟨_, _, _, rfl, eB.a, tB⟩
    · rintro σ H6 ⟨v1, v2, v3, rfl, eS, eT⟩
      walk_at "rd"
      exact q _
end
end Th
namespace Th
open PySem PySem.Spec PyProof.Rows L2
local macro_rules | `(tactic| walk_at "lk") => `(tactic| first
  | assumption
  | exact upd_same
  | (refine upd_old (by assumption) ?_; walk_at "lk")
  | (refine upd_diff (by assumption) ?_; walk_at "lk")
  | (refine upd_diff (Ne.symm (by assumption)) ?_; walk_at "lk"))
local macro_rules | `(tactic| walk_at "cnd") => `(tactic| first
  | omega
  | (refine ⟨by omega, by omega⟩)
  | (refine ⟨by omega, by omega, by omega⟩)
  | (refine .inl ⟨by omega, by omega⟩)
  | (refine .inr ⟨by omega, by omega⟩)
  | (exact (show CPow _ _ from ⟨by decide, by decide, by omega⟩))
  | decide +kernel
  | (unfold CMulW; decide +kernel)
  | (exact wide_div (b := 64) (by omega) (by omega) (by decide) (by decide)))
local macro_rules | `(tactic| walk_at "rd1") => `(tactic| first
  | (with_reducible refine r_seq ?_)
  | (with_reducible refine r_asg ?_)
  | (with_reducible refine r_ret ?_)
  | (with_reducible refine r_if ?_)
  | (with_reducible refine r_gname ?_)
  | ((with_reducible refine' r_var ?hv ?_); (case hv => exact rfl))
  | (with_reducible refine r_c ?_)
  | (with_reducible refine r_op ?_)
  | (with_reducible refine r_I0 ?_)
  | ((with_reducible refine r_I ?hc ?_); (case hc => walk_at "cnd"))
  | (with_reducible refine r_test ?_)
  | (with_reducible refine r_tB ?_)
  | (with_reducible refine r_bl ?_)
  | (with_reducible refine r_not ?_)
  | (with_reducible refine r_and ?_)
  | (with_reducible refine r_or ?_)
  | (with_reducible refine r_ifE ?_)
  | (with_reducible refine r_notV ?_)
  | (with_reducible refine r_andV ?_)
  | (with_reducible refine r_orV ?_)
  | (with_reducible refine r_chain ?_)
  | (with_reducible refine r_cb ?_)
  | (with_reducible refine r_call ?_)
  | (with_reducible refine r_callN ?_)
  | (with_reducible refine r_nil ?_)
  | (with_reducible refine r_cons ?_)
  | ((with_reducible refine r_lst ?_))
  | ((with_reducible refine r_tup ?_))
  | ((with_reducible refine r_new ?_ ?_); (exact Nat.le_of_ble_eq_true rfl); (intro p hp))
  | (with_reducible refine r_rInt1 ?_)
  | (with_reducible refine r_rIntB ?_)
  | (with_reducible refine r_rAbs ?_)
  | (with_reducible refine r_rMin2 ?_)
  | (with_reducible refine r_rMax2 ?_)
  | ((with_reducible refine r_rLenZ ?hz ?_); (case hz => first | assumption | exact Nat.le_of_ble_eq_true rfl | (refine Nat.le_trans ?_ (by decide : 100000 ≤ sizeLine); omega)))
  | ((with_reducible refine r_addZ ?hz ?_); (case hz => (refine Nat.le_trans ?_ (by decide : 100000 ≤ sizeLine); first | omega | (simp only [Str.length] at *; simp; omega))))
  | ((with_reducible refine r_mulZ ?hz ?h0 ?h1 ?_); (case hz => first | omega | exact Nat.le_of_ble_eq_true rfl); (case h0 => omega); (case h1 => omega))
  | ((with_reducible refine' r_rLenQ ?h1 ?_); (case h1 => first | (exact .inl (by assumption)) | (exact .inr (by assumption)) | (exact .inl (SqL.of (by walk_at "lk"))) | (exact .inr (SqT.of (by walk_at "lk")))))
  | ((with_reducible refine r_eq ?hs ?_); (case hs => exact rfl))
  | ((with_reducible refine r_ne ?hs ?_); (case hs => exact rfl))
  | (with_reducible refine r_inC ?_)
  | ((with_reducible refine' r_cat ?h1 ?h2 ?h3 ?_); (case h1 => walk_at "lk"); (case h2 => walk_at "lk"); (case h3 => exact Nat.le_of_ble_eq_true rfl); (intro p hp))
  | ((with_reducible refine' r_rep ?h1 ?h2 ?h3 ?h4 ?_); (case h1 => walk_at "lk"); (case h2 => omega); (case h3 => omega); (case h4 => exact Nat.le_of_ble_eq_true rfl); (intro p hp))
  | ((with_reducible refine' r_append ?h1 ?h2 ?_); (case h1 => walk_at "lk"); (case h2 => first | exact (show _ + 1 ≤ sizeLine from Nat.le_of_ble_eq_true rfl) | exact Nat.lt_of_le_of_lt (by omega : _ ≤ 100000) (by decide)))
  | (with_reducible refine r_bm ?_)
  | ((with_reducible refine' r_tyL ?h1 ?_); (case h1 => walk_at "lk"))
  | ((with_reducible refine' r_ixL ?h1 ?h2 ?_); (case h1 => first | assumption | exact SqL.of (by walk_at "lk")); (case h2 => exact rfl))
  | ((with_reducible refine' r_ixT ?h1 ?h2 ?_); (case h1 => first | assumption | exact SqT.of (by walk_at "lk")); (case h2 => exact rfl))
  | (with_reducible refine r_gsub ?_)
  | ((with_reducible refine' r_setL ?h1 ?h2 ?_); (case h1 => walk_at "lk"); (case h2 => exact rfl))
  | (with_reducible refine r_un ?_)
  | (with_reducible refine r_neg ?_)
  | (with_reducible refine r_iteT ?_)
  | (with_reducible refine r_iteNT ?_)
  | (with_reducible refine r_iteNF ?_)
  | (with_reducible refine r_iteF ?_)
  | (with_reducible refine r_next ?_)
  | (with_reducible refine r_drop ?_)
  | (with_reducible refine r_cont ?_)
  | (with_reducible refine r_brk ?_))
local macro_rules | `(tactic| walk_at "ty") => `(tactic| first
  | assumption
  | exact .base (.int _)
  | exact .base (.str _)
  | exact .base (.bl _)
  | exact .base .non
  | exact .byt _
  | exact .base (.lst (by walk_at "lk"))
  | exact .base (.tup (by walk_at "lk")))
local macro_rules | `(tactic| walk_at "rd2") => `(tactic| first
  | walk_at "rd1"
  | ((with_reducible refine' r_isi true ?ht ?hk ?_); (case ht => walk_at "ty"); (case hk => first | assumption | decide +kernel))
  | ((with_reducible refine' r_isi false ?ht ?hk ?_); (case ht => walk_at "ty"); (case hk => first | assumption | decide +kernel))
  | ((with_reducible refine' r_isiT2 true true ?hT ?ht ?hk ?hk2 ?_); (case hT => walk_at "lk"); (case ht => walk_at "ty"); (case hk => decide +kernel); (case hk2 => decide +kernel))
  | ((with_reducible refine' r_isiT2 true false ?hT ?ht ?hk ?hk2 ?_); (case hT => walk_at "lk"); (case ht => walk_at "ty"); (case hk => decide +kernel); (case hk2 => decide +kernel))
  | ((with_reducible refine' r_isiT2 false true ?hT ?ht ?hk ?hk2 ?_); (case hT => walk_at "lk"); (case ht => walk_at "ty"); (case hk => decide +kernel); (case hk2 => decide +kernel))
  | ((with_reducible refine' r_isiT2 false false ?hT ?ht ?hk ?hk2 ?_); (case hT => walk_at "lk"); (case ht => walk_at "ty"); (case hk => decide +kernel); (case hk2 => decide +kernel))
  | (with_reducible refine r_iteNT ?_)
  | ((show (if (!true) = true then _ else _)); refine r_iteNT ?_)
  | (with_reducible refine r_r1 ?_)
  | (with_reducible refine r_maks ?_)
  | (with_reducible refine r_sfld ?_)
  | ((with_reducible refine' r_sfldE ?h1 ?h2 ?h3 ?h4 ?_); (case h1 => walk_at "lk"); (case h2 => assumption); (case h3 => assumption); (case h4 => exact (show _ + 1 ≤ 1000 from Nat.le_of_ble_eq_true rfl)))
  | (with_reducible refine r_fld ?_)
  | (with_reducible refine r_join ?_)
  | (with_reducible refine r_jcons ?_)
  | (with_reducible refine r_jnil ?_)
  | ((with_reducible refine r_rLenY ?hz ?_); (case hz => first | assumption | (refine Nat.le_trans ?_ (by decide : 100000 ≤ sizeLine); omega)))
  | (with_reducible refine r_par ?_)
  | (with_reducible refine r_pair ?_)
  | (with_reducible refine r_par3 ?_)
  | (with_reducible refine r_trip ?_)
  | ((with_reducible refine' r_gtup ?h1 ?h2 ?_); (case h1 => first | assumption | exact SqT.of (by walk_at "lk")); (case h2 => exact rfl))
  | (with_reducible refine r_gcons ?_)
  | (with_reducible refine r_gnil ?_)
  | ((with_reducible refine' r_slL ?h1 ?_); (case h1 => first | assumption | exact SqL.of (by walk_at "lk")); (intro p hp))
  | (with_reducible refine r_iTup ?_)
  | ((with_reducible refine' r_tupE ?h1 ?_); (case h1 => first | assumption | exact SqT.of (by walk_at "lk")))
  | (with_reducible refine r_m1 ?_)
  | (with_reducible refine r_isZ ?_)
  | (with_reducible refine r_sl ?_)
  | (with_reducible refine r_noPart ?_)
  | (with_reducible refine r_part ?_)
  | (with_reducible refine r_partE ?_)
  | ((with_reducible refine r_slS ?hz ?_); (case hz => first | assumption | (refine Nat.le_trans ?_ (by decide : 100000 ≤ sizeLine); omega)))
  | ((with_reducible refine' r_inT ?h1 ?h2 ?h3 ?_); (case h1 => first | assumption | (exact SqT.of (by walk_at "lk"))); (case h2 => exact rfl); (case h3 => exact rfl))
  | ((with_reducible refine' r_inL ?h1 ?h2 ?h3 ?_); (case h1 => first | assumption | (exact SqL.of (by walk_at "lk"))); (case h2 => exact rfl); (case h3 => exact rfl))
  | (with_reducible refine r_lc ?_)
  | (with_reducible refine r_for ?_)
  | (with_reducible refine r_iStr ?_)
  | (with_reducible refine r_strE ?_)
  | (with_reducible refine r_iList ?_)
  | ((with_reducible refine' r_listE ?h1 ?_); (case h1 => first | assumption | exact SqL.of (by walk_at "lk")))
  | (with_reducible refine r_iRng1 ?_)
  | ((with_reducible refine' r_rngE ?h0 ?h1 ?_); (case h0 => first | omega | (split <;> omega)); (case h1 => first | omega | (split <;> omega))))
local macro_rules | `(tactic| walk_at "rd") => `(tactic| (repeat walk_at "rd2"))
local macro_rules | `(tactic| walk_at "st") => `(tactic| (repeat (first
  | (with_reducible refine r_gname ?_)
  | (with_reducible refine r_next ?_)
  | (with_reducible refine r_seq ?_)
  | (with_reducible refine r_asg ?_)
  | (with_reducible refine r_ret ?_)
  | (with_reducible refine r_for ?_)
  | (with_reducible refine r_iRng1 ?_)
  | (with_reducible refine r_iList ?_)
  | (with_reducible refine r_cons ?_)
  | (with_reducible refine r_par ?_)
  | (with_reducible refine r_par3 ?_))))
open LamX (Tabs TabB ExtN)
/-! ### what the top has written -/
structure DefF (K : PySem.W.Frag) (x : Str) (st : Stmt) (f : Addr) : Prop where
  ns : PySem.W.nsIn K mainGlobals x = some (some (.ref f))
  fn : ∃ (oc : Value) (od an : Option Addr) (kV doc pm cdv ct : Value) (osl : Array (Option Value)), K.lookup f = some ⟨oc, od, .func (PySem.W.fnOf x x (defArgs st) (defBody st) (defScope st) .none kV doc pm an cdv ct), osl⟩ ∧ PySem.W.codeIn K cdv x = true
  kp : PySem.W.keepIn K (.ref f) = true
theorem DefF.fun_ {K : PySem.W.Frag} {x : Str} {st : Stmt} {f : Addr} (d : DefF K x st f) : ∃ fd, Fun K x x st f fd := by
  obtain ⟨oc, od, an, kV, doc, pm, cdv, ct, osl, l, c⟩ := d.fn
  exact ⟨_, fun_mk l c d.kp⟩
/-- a def whose code object is told -/
structure DefC (K : PySem.W.Frag) (x : Str) (st : Stmt) (f cA : Addr) : Prop where
  ns : PySem.W.nsIn K mainGlobals x = some (some (.ref f))
  fn : ∃ (oc : Value) (od an : Option Addr) (kV doc pm ct : Value) (osl : Array (Option Value)), K.lookup f = some ⟨oc, od, .func (PySem.W.fnOf x x (defArgs st) (defBody st) (defScope st) .none kV doc pm an (.ref cA) ct), osl⟩ ∧ PySem.W.codeIn K (.ref cA) x = true
  kp : PySem.W.keepIn K (.ref f) = true
theorem DefC.fun_ {K : PySem.W.Frag} {x : Str} {st : Stmt} {f cA : Addr} (d : DefC K x st f cA) : ∃ fd, FunC K x x st f fd cA := by
  obtain ⟨oc, od, an, kV, doc, pm, ct, osl, l, c⟩ := d.fn
  exact ⟨_, ⟨oc, od, kV, doc, pm, an, ct, osl, rfl, l, c⟩, d.kp⟩
structure XF (K : PySem.W.Frag) (x qual : Str) (C fI : Addr) (st : Stmt) (fld : Str) : Prop where
  ns : PySem.W.nsIn K mainGlobals x = some (some (.ref C))
  g : ExG K C fI
  ty : PySem.W.typeIn K (.ref C) = some (.type "type")
  no : PySem.W.findIn K (.ref C) fld = some none
  fn : ∃ (oc : Value) (od an : Option Addr) (kV doc pm cdv ct : Value) (osl : Array (Option Value)), K.lookup fI = some ⟨oc, od, .func (PySem.W.fnOf "__init__" qual (defArgs st) (defBody st) (defScope st) .none kV doc pm an cdv ct), osl⟩ ∧ PySem.W.codeIn K cdv qual = true
  kp : PySem.W.keepIn K (.ref fI) = true
structure CdF (K : PySem.W.Frag) (x : Str) (C fI : Addr) (attrs : List Str) : Prop where
  ns : PySem.W.nsIn K mainGlobals x = some (some (.ref C))
  cl : Cls K C
  mkk : Mk K C fI
  na : ∀ f ∈ attrs, NoAttr K C f
structure IniF (K : PySem.W.Frag) (qual : Str) (st : Stmt) (b : Int) (f : Addr) : Prop where
  ex : ∃ (oc : Value) (od : Option Addr) (D : Addr) (doc pm : Value) (an : Option Addr) (cdv ct : Value) (osl : Array (Option Value)) (t1 t2 : Tok),
    K.lookup f = some ⟨oc, od, .func (PySem.W.fnOf "__init__" qual (defArgs st) (defBody st) (defScope st) .none (.ref D) doc pm an cdv ct), osl⟩ ∧ PySem.W.codeIn K cdv qual = true ∧ PySem.W.nsIn K D "mode" = some (some (.int b t1)) ∧ PySem.W.nsIn K D "time" = some (some (.int 0 t2))
  kp : PySem.W.keepIn K (.ref f) = true
theorem IniF.fun_ {K : PySem.W.Frag} {qual : Str} {st : Stmt} {b : Int} {f : Addr} (d : IniF K qual st b f) : ∃ fd, FunD K "__init__" qual (defArgs st) (defBody st) (defScope st) [] [("mode", .int b), ("time", .int 0)] f fd := by
  obtain ⟨oc, od, D, doc, pm, an, cdv, ct, osl, t1, t2, il, ic, i1, i2⟩ := d.ex
  refine ⟨_, ⟨oc, od, .none, .ref D, doc, pm, an, cdv, ct, osl, rfl, il, ic, .inl ⟨rfl, rfl⟩, .inr ⟨D, rfl, ?_⟩⟩, d.kp⟩
  intro q hq
  simp only [List.mem_cons, List.not_mem_nil, or_false] at hq
  rcases hq with rfl | rfl
  · exact ⟨_, i1, ⟨_, rfl⟩⟩
  · exact ⟨_, i2, ⟨_, rfl⟩⟩
section
variable {P : Program} {w : World} {K : PySem.W.Frag} {mg : Str → Option Value} {base : Heap}
theorem cal_mk {h : Heap} {x : Str} {st : Stmt} {f : Addr} {ps : List Str} {k : Nat} {sp : Sp} (X : K.In h) (G : h.Ns mainGlobals mg) (d : DefF K x st f)
    (hb : ∀ (kV doc pm : Value) (an : Option Addr) (cdv ct : Value) (us : List Value), us.length = ps.length → bindArgs (PySem.W.fnOf x x (defArgs st) (defBody st) (defScope st) .none kV doc pm an cdv ct) ⟨us, []⟩ = pure (ps.zip us))
    (ok : ∀ fd, Fun K x x st f fd → FnOk P w K mg base CX0 k f fd ps sp) : CalT P w K mg base k x sp := by
  obtain ⟨fd, F⟩ := d.fun_
  exact ⟨f, fd, ps, ok fd F, PySem.W.mg_of X G d.ns, d.kp, F.binds hb⟩
theorem calk_mk {h : Heap} {x : Str} {st : Stmt} {f : Addr} {ps : List Str} {k : Nat} {sp : Sp} {n1 : Str} (X : K.In h) (G : h.Ns mainGlobals mg) (d : DefF K x st f)
    (hb : ∀ (kV doc pm : Value) (an : Option Addr) (cdv ct : Value) (u : Value), bindArgs (PySem.W.fnOf x x (defArgs st) (defBody st) (defScope st) .none kV doc pm an cdv ct) ⟨[], [(n1, u)]⟩ = pure (ps.zip [u]))
    (ok : ∀ fd, Fun K x x st f fd → FnOk P w K mg base CX0 k f fd ps sp) : CalK P w K mg base k x [n1] sp := by
  obtain ⟨fd, F⟩ := d.fun_
  refine ⟨f, fd, ps, ok fd F, PySem.W.mg_of X G d.ns, d.kp, ⟨?_, fun r1 r2 => r1.append r2⟩⟩
  obtain ⟨oc, od, kV, doc, pm, an, cdv, ct, osl, rfl, lk, hcd⟩ := F.ex
  intro s us ws _ h1 h2
  match us, ws, h1, h2 with
  | [], [u], _, _ => exact .of_eq (hb kV doc pm an cdv ct u)
theorem calx_mk {h : Heap} {x : Str} {st : Stmt} {f : Addr} {ps : List Str} {k : Nat} {sp : Sp} (X : K.In h) (G : h.Ns mainGlobals mg) (d : DefF K x st f)
    (hb : ∀ (kV doc pm : Value) (an : Option Addr) (cdv ct : Value) (us : List Value), us.length = ps.length → bindArgs (PySem.W.fnOf x x (defArgs st) (defBody st) (defScope st) .none kV doc pm an cdv ct) ⟨us, []⟩ = pure (ps.zip us))
    (ok : ∀ fd, Fun K x x st f fd → FnOk P w K mg base (L2.CX P w) k f fd ps sp) : CalX P w K mg base k x sp := by
  obtain ⟨fd, F⟩ := d.fun_
  exact ⟨f, fd, ps, ok fd F, PySem.W.mg_of X G d.ns, d.kp, F.binds hb⟩
theorem calg_mk {h : Heap} {x : Str} {st : Stmt} {f : Addr} {ps : List Str} {k : Nat} {sp : Sp} (X : K.In h) (G : h.Ns mainGlobals mg) (d : DefF K x st f)
    (hb : ∀ (kV doc pm : Value) (an : Option Addr) (cdv ct : Value) (us : List Value), us.length = ps.length → bindArgs (PySem.W.fnOf x x (defArgs st) (defBody st) (defScope st) .none kV doc pm an cdv ct) ⟨us, []⟩ = pure (ps.zip us))
    (ok : ∀ fd, Fun K x x st f fd → FnG P w K mg base k f fd ps sp) : CalG P w K mg base k x sp := by
  obtain ⟨fd, F⟩ := d.fun_
  exact ⟨f, fd, ps, ok fd F, PySem.W.mg_of X G d.ns, d.kp, F.binds hb⟩
theorem calc_mk {h : Heap} {x : Str} {st : Stmt} {f cA : Addr} {ps : List Str} {k : Nat} {sp : Sp} (X : K.In h) (G : h.Ns mainGlobals mg) (d : DefC K x st f cA)
    (hb : ∀ (kV doc pm : Value) (an : Option Addr) (cdv ct : Value) (us : List Value), us.length = ps.length → bindArgs (PySem.W.fnOf x x (defArgs st) (defBody st) (defScope st) .none kV doc pm an cdv ct) ⟨us, []⟩ = pure (ps.zip us))
    (ok : ∀ fd, FunC K x x st f fd cA → FnG P w K mg base k f fd ps sp) : CalG P w K mg base k x sp := by
  obtain ⟨fd, F⟩ := d.fun_
  exact ⟨f, fd, ps, ok fd F, PySem.W.mg_of X G d.ns, d.kp, F.toFun.binds hb⟩
theorem rai_mk {h : Heap} {x qual fld : Str} {C fI : Addr} {st : Stmt} {ps : List Str} (X : K.In h) (G : h.Ns mainGlobals mg) (d : XF K x qual C fI st fld)
    (hb : ∀ (kV doc pm : Value) (an : Option Addr) (cdv ct : Value) (us : List Value), us.length = ps.length → bindArgs (PySem.W.fnOf "__init__" qual (defArgs st) (defBody st) (defScope st) .none kV doc pm an cdv ct) ⟨us, []⟩ = pure (ps.zip us))
    (ok : ∀ fd, Fun K "__init__" qual st fI fd → FnOk P w K mg base CX0 7 fI fd ps (spIX C fld)) : Rai P w K mg base x C fld := by
  obtain ⟨oc, od, an, kV, doc, pm, cdv, ct, osl, l, c⟩ := d.fn
  have F := fun_mk l c d.kp
  exact ⟨fI, _, ps, d.g, d.ty, ok _ F, F.binds hb, PySem.W.mg_of X G d.ns⟩
theorem fnSX_pX {k n : Nat} {f : Addr} {fd : FuncData} {ps ks : List Str} {sp : Sp} (F : FnOk P w K mg base (L2.CX P w) k f fd ps sp) (hb : KBn K fd ps n ks (fun us ws => us ++ ws) (fun us ws => us ++ ws)) (hl : ∀ xs H Q E, sp xs H Q E → xs.length = n + ks.length) : FnSX P w K mg base k f ks (pX sp) := by
  intro A outer s H us ws vs zs Q E hr e0 rv rz hw h
  refine fnSX_of F hb A outer s H us ws vs zs Q E hr e0 rv rz hw ⟨?_, h⟩
  have h1 := hl _ _ _ _ h
  rw [List.length_append, rz.length, hw] at h1
  omega
theorem cop0 {f : Addr} {fd : FuncData} : FnOk P w K mg base CX0 0 f fd ["thing"] (spCop 0) :=
  ⟨fun _ _ _ _ ⟨_, _, _, _, _, h, _⟩ => absurd h (Nat.not_lt_zero _), fun _ _ _ _ _ _ _ _ _ _ _ _ _ ⟨_, _, _, _, _, h, _⟩ => absurd h (Nat.not_lt_zero _)⟩
theorem all_mk {l : PySem.W.OpenLaw} {w : World} {K : PySem.W.Frag} {h : Heap} {mg : Str → Option Value} {fa f_law f_copied f_is_integer f_is_integer_within f_is_name f_is_data f_is_size f_is_mode f_is_time f_is_piece f_are_spans f_are_pieces f_check_name f_check_data f_check_pieces f_check_mode_and_time f_blob f_is_row_of_bytes f__law_source f__law_draw f__law_error f__law_pick f__law_stamps_due f__law_random_stamps f__law_wrong_names f__law_blob_error f__law_blobs_right f_links f_files aNoName aNoData aNoSize aNoPieces aNoMode aNoTime aNoBlob iNoName iNoData iNoSize iNoPieces iNoMode iNoTime iNoBlob aNoText aNoBlock aNoMember aNoCommand aTooMany aFile aSparse aDirectory aSymlink aLink iFile iSparse iDirectory iSymlink iLink cA cB PA PB : Addr} {t_MOST_CHARACTERS t_NAME_CHARACTERS t_MOST_BYTES t_MOST_PIECES t_LAST_MODE t_LAST_TIME : Tok} (X : K.In h) (G : h.Ns mainGlobals mg) (hfa : mg "law" = some (.ref fa))
    (d_law : DefF K "law" s_law f_law)
    (d_copied : DefF K "copied" s_copied f_copied)
    (d_is_integer : DefF K "is_integer" s_is_integer f_is_integer)
    (d_is_integer_within : DefF K "is_integer_within" s_is_integer_within f_is_integer_within)
    (d_is_name : DefF K "is_name" s_is_name f_is_name)
    (d_is_data : DefF K "is_data" s_is_data f_is_data)
    (d_is_size : DefF K "is_size" s_is_size f_is_size)
    (d_is_mode : DefF K "is_mode" s_is_mode f_is_mode)
    (d_is_time : DefF K "is_time" s_is_time f_is_time)
    (d_is_piece : DefF K "is_piece" s_is_piece f_is_piece)
    (d_are_spans : DefF K "are_spans" s_are_spans f_are_spans)
    (d_are_pieces : DefF K "are_pieces" s_are_pieces f_are_pieces)
    (d_check_name : DefF K "check_name" s_check_name f_check_name)
    (d_check_data : DefF K "check_data" s_check_data f_check_data)
    (d_check_pieces : DefF K "check_pieces" s_check_pieces f_check_pieces)
    (d_check_mode_and_time : DefF K "check_mode_and_time" s_check_mode_and_time f_check_mode_and_time)
    (d_blob : DefF K "blob" s_blob f_blob)
    (d_is_row_of_bytes : DefF K "is_row_of_bytes" s_is_row_of_bytes f_is_row_of_bytes)
    (d__law_source : DefF K "_law_source" s__law_source f__law_source)
    (d__law_draw : DefF K "_law_draw" s__law_draw f__law_draw)
    (d__law_error : DefF K "_law_error" s__law_error f__law_error)
    (d__law_pick : DefF K "_law_pick" s__law_pick f__law_pick)
    (d__law_stamps_due : DefF K "_law_stamps_due" s__law_stamps_due f__law_stamps_due)
    (d__law_random_stamps : DefF K "_law_random_stamps" s__law_random_stamps f__law_random_stamps)
    (d__law_wrong_names : DefF K "_law_wrong_names" s__law_wrong_names f__law_wrong_names)
    (d__law_blob_error : DefF K "_law_blob_error" s__law_blob_error f__law_blob_error)
    (d__law_blobs_right : DefF K "_law_blobs_right" s__law_blobs_right f__law_blobs_right)
    (d_links : DefC K "_law_links_right" s__law_links_right f_links cA)
    (d_files : DefC K "_law_files_right" s__law_files_right f_files cB)
    (x_NoName : XF K "NoName" "NoName.__init__" aNoName iNoName s_NoName___init__ "name")
    (x_NoData : XF K "NoData" "NoData.__init__" aNoData iNoData s_NoData___init__ "thing")
    (x_NoSize : XF K "NoSize" "NoSize.__init__" aNoSize iNoSize s_NoSize___init__ "size")
    (x_NoPieces : XF K "NoPieces" "NoPieces.__init__" aNoPieces iNoPieces s_NoPieces___init__ "pieces")
    (x_NoMode : XF K "NoMode" "NoMode.__init__" aNoMode iNoMode s_NoMode___init__ "mode")
    (x_NoTime : XF K "NoTime" "NoTime.__init__" aNoTime iNoTime s_NoTime___init__ "time")
    (x_NoBlob : XF K "NoBlob" "NoBlob.__init__" aNoBlob iNoBlob s_NoBlob___init__ "numbers")
    (n_NoText : PySem.W.nsIn K mainGlobals "NoText" = some (some (.ref aNoText)))
    (n_NoBlock : PySem.W.nsIn K mainGlobals "NoBlock" = some (some (.ref aNoBlock)))
    (n_NoMember : PySem.W.nsIn K mainGlobals "NoMember" = some (some (.ref aNoMember)))
    (n_NoCommand : PySem.W.nsIn K mainGlobals "NoCommand" = some (some (.ref aNoCommand)))
    (n_TooMany : PySem.W.nsIn K mainGlobals "TooMany" = some (some (.ref aTooMany)))
    (h_File : CdF K "File" aFile iFile ["name", "data", "mode", "time"])
    (h_Sparse : CdF K "Sparse" aSparse iSparse ["name", "size", "mode", "time", "pieces"])
    (h_Directory : CdF K "Directory" aDirectory iDirectory ["name", "mode", "time"])
    (h_Symlink : CdF K "Symlink" aSymlink iSymlink ["name", "target", "mode", "time"])
    (h_Link : CdF K "Link" aLink iLink ["name", "target", "mode", "time"])
    (j_File : IniF K "File.__init__" s_File___init__ 420 iFile)
    (j_Sparse : IniF K "Sparse.__init__" s_Sparse___init__ 420 iSparse)
    (j_Directory : IniF K "Directory.__init__" s_Directory___init__ 493 iDirectory)
    (j_Symlink : IniF K "Symlink.__init__" s_Symlink___init__ 511 iSymlink)
    (j_Link : IniF K "Link.__init__" s_Link___init__ 420 iLink)
    (n_MOST_CHARACTERS : PySem.W.nsIn K mainGlobals "MOST_CHARACTERS" = some (some (.int 250 t_MOST_CHARACTERS)))
    (n_NAME_CHARACTERS : PySem.W.nsIn K mainGlobals "NAME_CHARACTERS" = some (some (.str NC t_NAME_CHARACTERS)))
    (n_MOST_BYTES : PySem.W.nsIn K mainGlobals "MOST_BYTES" = some (some (.int 4096 t_MOST_BYTES)))
    (n_MOST_PIECES : PySem.W.nsIn K mainGlobals "MOST_PIECES" = some (some (.int 50 t_MOST_PIECES)))
    (n_LAST_MODE : PySem.W.nsIn K mainGlobals "LAST_MODE" = some (some (.int 4095 t_LAST_MODE)))
    (n_LAST_TIME : PySem.W.nsIn K mainGlobals "LAST_TIME" = some (some (.int 8589934591 t_LAST_TIME)))
    (eF : ErrF K ⟨aNoName, aNoData, aNoMode, aNoTime, aNoSize, aNoPieces⟩ ⟨aNoText, aNoBlob, aNoBlock, aNoMember, aNoCommand, aTooMany⟩)
    (kT : PySem.W.kitOne K (.ref aNoBlob) (.type "TypeError") = some true)
    (kN : PySem.W.kitAny K (.ref aNoBlob) [.ref aNoData, .ref aNoBlock, .ref aNoMember] = some false)
    (kX : PySem.W.exmOne K (.ref aNoBlob) (.ref aNoBlob) = some true)
    (nP : PA ≠ PB)
    (z : ∀ b ∈ (["isinstance", "bool", "int", "list", "tuple", "dict", "all", "bytes", "len", "abs", "min", "max", "range", "repr", "str", "ValueError", "TypeError", "OverflowError"] : List Str), PySem.W.nsIn K mainGlobals b = some none) :
    ∃ fd : FuncData, (∀ (s : Shared) (v : Value), BindsTo s fd ⟨[v], []⟩ [("_law_script", v)]) ∧ ∀ base : Heap, K.In base → base.Ns mainGlobals mg → TabB base mg cA PA → TabB base mg cB PB →
      FnG l.prog w K mg base 18 fa fd ["_law_script"] (spLawT K [(PA, ("_law_links_right" : Str) ++ ".<locals>.<lambda>"), (PB, ("_law_files_right" : Str) ++ ".<locals>.<lambda>")]) := by
  have e := hfa.symm.trans (PySem.W.mg_of X G d_law.ns)
  cases e
  have bs : ∀ b ∈ (["isinstance", "bool", "int", "list", "tuple", "dict", "all", "bytes", "len", "abs", "min", "max", "range", "repr", "str", "ValueError", "TypeError", "OverflowError"] : List Str), mg b = none := fun b hb => PySem.W.mg_none_of X G (z b hb)
  have b_isinstance : mg "isinstance" = none := bs _ (by simp)
  have b_bool : mg "bool" = none := bs _ (by simp)
  have b_int : mg "int" = none := bs _ (by simp)
  have b_list : mg "list" = none := bs _ (by simp)
  have b_tuple : mg "tuple" = none := bs _ (by simp)
  have b_dict : mg "dict" = none := bs _ (by simp)
  have b_all : mg "all" = none := bs _ (by simp)
  have b_bytes : mg "bytes" = none := bs _ (by simp)
  have b_len : mg "len" = none := bs _ (by simp)
  have b_abs : mg "abs" = none := bs _ (by simp)
  have b_min : mg "min" = none := bs _ (by simp)
  have b_max : mg "max" = none := bs _ (by simp)
  have b_range : mg "range" = none := bs _ (by simp)
  have b_repr : mg "repr" = none := bs _ (by simp)
  have b_str : mg "str" = none := bs _ (by simp)
  have b_ValueError : mg "ValueError" = none := bs _ (by simp)
  have b_TypeError : mg "TypeError" = none := bs _ (by simp)
  have b_OverflowError : mg "OverflowError" = none := bs _ (by simp)
  have g_MOST_CHARACTERS := PySem.W.mg_of X G n_MOST_CHARACTERS
  have g_NAME_CHARACTERS := PySem.W.mg_of X G n_NAME_CHARACTERS
  have g_MOST_BYTES := PySem.W.mg_of X G n_MOST_BYTES
  have g_MOST_PIECES := PySem.W.mg_of X G n_MOST_PIECES
  have g_LAST_MODE := PySem.W.mg_of X G n_LAST_MODE
  have g_LAST_TIME := PySem.W.mg_of X G n_LAST_TIME
  have g_NoText := PySem.W.mg_of X G n_NoText
  have g_NoBlock := PySem.W.mg_of X G n_NoBlock
  have g_NoMember := PySem.W.mg_of X G n_NoMember
  have g_NoCommand := PySem.W.mg_of X G n_NoCommand
  have g_TooMany := PySem.W.mg_of X G n_TooMany
  have g_NoName := PySem.W.mg_of X G x_NoName.ns
  have g_NoData := PySem.W.mg_of X G x_NoData.ns
  have g_NoSize := PySem.W.mg_of X G x_NoSize.ns
  have g_NoPieces := PySem.W.mg_of X G x_NoPieces.ns
  have g_NoMode := PySem.W.mg_of X G x_NoMode.ns
  have g_NoTime := PySem.W.mg_of X G x_NoTime.ns
  have g_NoBlob := PySem.W.mg_of X G x_NoBlob.ns
  obtain ⟨fd, F⟩ := d_law.fun_
  refine ⟨fd, ?_, ?_⟩
  · obtain ⟨oc, od, kV, doc, pm, an, cdv, ct, osl, rfl, lk, hcd⟩ := F.ex
    intro s v
    exact .of_eq rfl
  · intro base Xb Gb TA TB
    have c_isI : CalT l.prog w K mg base 1 "is_integer" spIsI := cal_mk Xb Gb d_is_integer (ps := ["thing"]) (fun _ _ _ _ _ _ us hl => match us, hl with | [_], _ => rfl) fun fd F => ok_isI F b_isinstance b_bool b_int
    have c_within : CalT l.prog w K mg base 2 "is_integer_within" spWithin := cal_mk Xb Gb d_is_integer_within (ps := ["thing", "least", "most"]) (fun _ _ _ _ _ _ us hl => match us, hl with | [_, _, _], _ => rfl) fun fd F => ok_within F c_isI
    have c_isdata : CalT l.prog w K mg base 1 "is_data" spData := cal_mk Xb Gb d_is_data (ps := ["thing"]) (fun _ _ _ _ _ _ us hl => match us, hl with | [_], _ => rfl) fun fd F => ok_isdata F b_isinstance b_bytes b_len g_MOST_BYTES
    have c_issize : CalT l.prog w K mg base 3 "is_size" (spNumB 0 4096) := cal_mk Xb Gb d_is_size (ps := ["thing"]) (fun _ _ _ _ _ _ us hl => match us, hl with | [_], _ => rfl) fun fd F => ok_issize F c_within g_MOST_BYTES
    have c_ismode : CalT l.prog w K mg base 3 "is_mode" (spNumB 0 4095) := cal_mk Xb Gb d_is_mode (ps := ["thing"]) (fun _ _ _ _ _ _ us hl => match us, hl with | [_], _ => rfl) fun fd F => ok_ismode F c_within g_LAST_MODE
    have c_istime : CalT l.prog w K mg base 3 "is_time" (spNumB 0 8589934591) := cal_mk Xb Gb d_is_time (ps := ["thing"]) (fun _ _ _ _ _ _ us hl => match us, hl with | [_], _ => rfl) fun fd F => ok_istime F c_within g_LAST_TIME
    have c_is_name : CalT l.prog w K mg base 2 "is_name" (spName K) := cal_mk Xb Gb d_is_name (ps := ["thing"]) (fun _ _ _ _ _ _ us hl => match us, hl with | [_], _ => rfl) fun fd F => ok_name F b_isinstance b_str b_len b_all g_MOST_CHARACTERS g_NAME_CHARACTERS
    have c_piece : CalT l.prog w K mg base 3 "is_piece" spPiece := cal_mk Xb Gb d_is_piece (ps := ["thing"]) (fun _ _ _ _ _ _ us hl => match us, hl with | [_], _ => rfl) fun fd F => ok_piece F b_isinstance b_tuple b_len b_bytes g_MOST_BYTES c_within
    have c_aspans : CalT l.prog w K mg base 2 "are_spans" spASpans := cal_mk Xb Gb d_are_spans (ps := ["size", "spans"]) (fun _ _ _ _ _ _ us hl => match us, hl with | [_, _], _ => rfl) fun fd F => ok_aspans F b_len g_MOST_PIECES
    have c_apieces : CalT l.prog w K mg base 4 "are_pieces" spAPieces := cal_mk Xb Gb d_are_pieces (ps := ["size", "pieces"]) (fun _ _ _ _ _ _ us hl => match us, hl with | [_, _], _ => rfl) fun fd F => ok_apieces F b_len b_all c_piece c_aspans
    have p0 : CalT l.prog w K mg base 0 "copied" (spCop 0) := cal_mk Xb Gb d_copied (ps := ["thing"]) (fun _ _ _ _ _ _ us hl => match us, hl with | [_], _ => rfl) fun fd F => cop0
    have p1 : CalT l.prog w K mg base 1 "copied" (spCop 1) := cal_mk Xb Gb d_copied (ps := ["thing"]) (fun _ _ _ _ _ _ us hl => match us, hl with | [_], _ => rfl) fun fd F => ok_cop F b_isinstance b_list b_tuple b_dict p0 rfl
    have p2 : CalT l.prog w K mg base 2 "copied" (spCop 2) := cal_mk Xb Gb d_copied (ps := ["thing"]) (fun _ _ _ _ _ _ us hl => match us, hl with | [_], _ => rfl) fun fd F => ok_cop F b_isinstance b_list b_tuple b_dict p1 rfl
    have p3 : CalT l.prog w K mg base 3 "copied" (spCop 3) := cal_mk Xb Gb d_copied (ps := ["thing"]) (fun _ _ _ _ _ _ us hl => match us, hl with | [_], _ => rfl) fun fd F => ok_cop F b_isinstance b_list b_tuple b_dict p2 rfl
    have p4 : CalT l.prog w K mg base 4 "copied" (spCop 4) := cal_mk Xb Gb d_copied (ps := ["thing"]) (fun _ _ _ _ _ _ us hl => match us, hl with | [_], _ => rfl) fun fd F => ok_cop F b_isinstance b_list b_tuple b_dict p3 rfl
    have p5 : CalT l.prog w K mg base 5 "copied" (spCop 5) := cal_mk Xb Gb d_copied (ps := ["thing"]) (fun _ _ _ _ _ _ us hl => match us, hl with | [_], _ => rfl) fun fd F => ok_cop F b_isinstance b_list b_tuple b_dict p4 rfl
    have p6 : CalT l.prog w K mg base 6 "copied" (spCop 6) := cal_mk Xb Gb d_copied (ps := ["thing"]) (fun _ _ _ _ _ _ us hl => match us, hl with | [_], _ => rfl) fun fd F => ok_cop F b_isinstance b_list b_tuple b_dict p5 rfl
    have R_NoName : Rai l.prog w K mg base "NoName" aNoName "name" := rai_mk Xb Gb x_NoName (ps := ["self", "name"]) (fun _ _ _ _ _ _ us hl => match us, hl with | [_, _], _ => rfl) fun fd F => ok_iNoName (k := 0) F x_NoName.g x_NoName.no p6
    have R_NoData : Rai l.prog w K mg base "NoData" aNoData "thing" := rai_mk Xb Gb x_NoData (ps := ["self", "thing"]) (fun _ _ _ _ _ _ us hl => match us, hl with | [_, _], _ => rfl) fun fd F => ok_iNoData (k := 0) F x_NoData.g x_NoData.no p6
    have R_NoSize : Rai l.prog w K mg base "NoSize" aNoSize "size" := rai_mk Xb Gb x_NoSize (ps := ["self", "size"]) (fun _ _ _ _ _ _ us hl => match us, hl with | [_, _], _ => rfl) fun fd F => ok_iNoSize (k := 0) F x_NoSize.g x_NoSize.no p6
    have R_NoPieces : Rai l.prog w K mg base "NoPieces" aNoPieces "pieces" := rai_mk Xb Gb x_NoPieces (ps := ["self", "pieces"]) (fun _ _ _ _ _ _ us hl => match us, hl with | [_, _], _ => rfl) fun fd F => ok_iNoPieces (k := 0) F x_NoPieces.g x_NoPieces.no p6
    have R_NoMode : Rai l.prog w K mg base "NoMode" aNoMode "mode" := rai_mk Xb Gb x_NoMode (ps := ["self", "mode"]) (fun _ _ _ _ _ _ us hl => match us, hl with | [_, _], _ => rfl) fun fd F => ok_iNoMode (k := 0) F x_NoMode.g x_NoMode.no p6
    have R_NoTime : Rai l.prog w K mg base "NoTime" aNoTime "time" := rai_mk Xb Gb x_NoTime (ps := ["self", "time"]) (fun _ _ _ _ _ _ us hl => match us, hl with | [_, _], _ => rfl) fun fd F => ok_iNoTime (k := 0) F x_NoTime.g x_NoTime.no p6
    have R_NoBlob : Rai l.prog w K mg base "NoBlob" aNoBlob "numbers" := rai_mk Xb Gb x_NoBlob (ps := ["self", "numbers"]) (fun _ _ _ _ _ _ us hl => match us, hl with | [_, _], _ => rfl) fun fd F => ok_iNoBlob (k := 0) F x_NoBlob.g x_NoBlob.no p6
    let c : Ec := ⟨aNoName, aNoData, aNoMode, aNoTime, aNoSize, aNoPieces⟩
    let u : Ed := ⟨aNoText, aNoBlob, aNoBlock, aNoMember, aNoCommand, aTooMany⟩
    have x_cname : CalX l.prog w K mg base 9 "check_name" (spCkName c.N) := calx_mk Xb Gb d_check_name (ps := ["thing"]) (fun _ _ _ _ _ _ us hl => match us, hl with | [_], _ => rfl) fun fd F => ok_cname F R_NoName c_is_name
    have x_cdata : CalX l.prog w K mg base 9 "check_data" (spCkData c.D) := calx_mk Xb Gb d_check_data (ps := ["thing"]) (fun _ _ _ _ _ _ us hl => match us, hl with | [_], _ => rfl) fun fd F => ok_cdata F R_NoData c_isdata
    have x_stamp : CalX l.prog w K mg base 9 "check_mode_and_time" (spCkStamp c.M c.T) := calx_mk Xb Gb d_check_mode_and_time (ps := ["mode", "time"]) (fun _ _ _ _ _ _ us hl => match us, hl with | [_, _], _ => rfl) fun fd F => ok_stamp F R_NoMode R_NoTime c_ismode c_istime
    have x_cpieces : CalX l.prog w K mg base 9 "check_pieces" (spCkPieces c) := calx_mk Xb Gb d_check_pieces (ps := ["size", "pieces"]) (fun _ _ _ _ _ _ us hl => match us, hl with | [_, _], _ => rfl) fun fd F => ok_cpieces F R_NoSize R_NoPieces c_issize c_apieces
    have mk_File : MakX l.prog w K mg base 11 "File" aFile ["mode", "time"] (pX (spFileX c aFile)) := by
      obtain ⟨fd, F⟩ := j_File.fun_
      obtain ⟨mv, hb⟩ := F.kbinds0 (ps := ["self", "name", "data", "mode", "time"]) 3 ["mode", "time"] [] (fun us _ ws => us ++ ws) (by simp) (by simp) (fun r1 _ r2 => r1.append r2) (fun D doc pm an cdv ct us mv ws h1 h2 h3 => match us, mv, ws, h1, h2, h3 with | [_, _, _], [], [_, _], _, _, _ => rfl)
      exact ⟨iFile, h_File.mkk, fnSX_pX (ok_fileX (k := 1) (c := c) F h_File.cl (h_File.na "name" (by simp)) (h_File.na "data" (by simp)) (h_File.na "mode" (by simp)) (h_File.na "time" (by simp)) x_cname x_cdata x_stamp) hb (fun xs H Q E h => by obtain ⟨x, dx, n, y, b, u, tn, ty, tb, tu, rfl, _⟩ := h; rfl), PySem.W.mg_of X G h_File.ns⟩
    have mk_Directory : MakX l.prog w K mg base 11 "Directory" aDirectory ["mode", "time"] (pX (spDirX c aDirectory)) := by
      obtain ⟨fd, F⟩ := j_Directory.fun_
      obtain ⟨mv, hb⟩ := F.kbinds0 (ps := ["self", "name", "mode", "time"]) 2 ["mode", "time"] [] (fun us _ ws => us ++ ws) (by simp) (by simp) (fun r1 _ r2 => r1.append r2) (fun D doc pm an cdv ct us mv ws h1 h2 h3 => match us, mv, ws, h1, h2, h3 with | [_, _], [], [_, _], _, _, _ => rfl)
      exact ⟨iDirectory, h_Directory.mkk, fnSX_pX (ok_dirX (k := 1) (c := c) F h_Directory.cl (h_Directory.na "name" (by simp)) (h_Directory.na "mode" (by simp)) (h_Directory.na "time" (by simp)) x_cname x_stamp) hb (fun xs H Q E h => by obtain ⟨x, dx, n, b, u, tn, tb, tu, rfl, _⟩ := h; rfl), PySem.W.mg_of X G h_Directory.ns⟩
    have mk_Symlink : MakX l.prog w K mg base 11 "Symlink" aSymlink ["mode", "time"] (pX (spLnkX c aSymlink)) := by
      obtain ⟨fd, F⟩ := j_Symlink.fun_
      obtain ⟨mv, hb⟩ := F.kbinds0 (ps := ["self", "name", "target", "mode", "time"]) 3 ["mode", "time"] [] (fun us _ ws => us ++ ws) (by simp) (by simp) (fun r1 _ r2 => r1.append r2) (fun D doc pm an cdv ct us mv ws h1 h2 h3 => match us, mv, ws, h1, h2, h3 with | [_, _, _], [], [_, _], _, _, _ => rfl)
      exact ⟨iSymlink, h_Symlink.mkk, fnSX_pX (ok_symX (k := 1) (c := c) F h_Symlink.cl (h_Symlink.na "name" (by simp)) (h_Symlink.na "target" (by simp)) (h_Symlink.na "mode" (by simp)) (h_Symlink.na "time" (by simp)) x_cname x_stamp) hb (fun xs H Q E h => by obtain ⟨x, dx, n, g, b, u, tn, tg, tb, tu, rfl, _⟩ := h; rfl), PySem.W.mg_of X G h_Symlink.ns⟩
    have mk_Link : MakX l.prog w K mg base 11 "Link" aLink ["mode", "time"] (pX (spLnkX c aLink)) := by
      obtain ⟨fd, F⟩ := j_Link.fun_
      obtain ⟨mv, hb⟩ := F.kbinds0 (ps := ["self", "name", "target", "mode", "time"]) 3 ["mode", "time"] [] (fun us _ ws => us ++ ws) (by simp) (by simp) (fun r1 _ r2 => r1.append r2) (fun D doc pm an cdv ct us mv ws h1 h2 h3 => match us, mv, ws, h1, h2, h3 with | [_, _, _], [], [_, _], _, _, _ => rfl)
      exact ⟨iLink, h_Link.mkk, fnSX_pX (ok_lnkX (k := 1) (c := c) F h_Link.cl (h_Link.na "name" (by simp)) (h_Link.na "target" (by simp)) (h_Link.na "mode" (by simp)) (h_Link.na "time" (by simp)) x_cname x_stamp) hb (fun xs H Q E h => by obtain ⟨x, dx, n, g, b, u, tn, tg, tb, tu, rfl, _⟩ := h; rfl), PySem.W.mg_of X G h_Link.ns⟩
    have mk_Spa : MakX l.prog w K mg base 11 "Sparse" aSparse ["mode", "time"] (spSpa c aSparse) := by
      obtain ⟨fd, F⟩ := j_Sparse.fun_
      exact ⟨iSparse, h_Sparse.mkk, ok_spaK (k := 1) (c := c) F h_Sparse.cl (h_Sparse.na "name" (by simp)) (h_Sparse.na "size" (by simp)) (h_Sparse.na "mode" (by simp)) (h_Sparse.na "time" (by simp)) (h_Sparse.na "pieces" (by simp)) x_cname x_cpieces x_stamp, PySem.W.mg_of X G h_Sparse.ns⟩
    have c_row : CalT l.prog w K mg base 3 "is_row_of_bytes" spRow := cal_mk Xb Gb d_is_row_of_bytes (ps := ["thing"]) (fun _ _ _ _ _ _ us hl => match us, hl with | [_], _ => rfl) fun fd F => ok_row F c_within b_isinstance b_list b_tuple b_all
    have c_rowT : CalT l.prog w K mg base 3 "is_row_of_bytes" spRowT := cal_mk Xb Gb d_is_row_of_bytes (ps := ["thing"]) (fun _ _ _ _ _ _ us hl => match us, hl with | [_], _ => rfl) fun fd F => ok_rowT F c_within b_isinstance b_list b_tuple b_all
    have c_blob : CalT l.prog w K mg base 4 "blob" spBlob := cal_mk Xb Gb d_blob (ps := ["numbers"]) (fun _ _ _ _ _ _ us hl => match us, hl with | [_], _ => rfl) fun fd F => ok_blob F c_row b_bytes
    have c_blobT : CalT l.prog w K mg base 4 "blob" spBlobT := cal_mk Xb Gb d_blob (ps := ["numbers"]) (fun _ _ _ _ _ _ us hl => match us, hl with | [_], _ => rfl) fun fd F => ok_blobT F c_rowT b_bytes
    have k_blobT : CalK l.prog w K mg base 4 "blob" ["numbers"] spBlobT := calk_mk Xb Gb d_blob (ps := ["numbers"]) (fun _ _ _ _ _ _ _ => rfl) fun fd F => ok_blobT F c_rowT b_bytes
    have x_blob : CalX l.prog w K mg base 9 "blob" (spBlobX aNoBlob) := calx_mk Xb Gb d_blob (ps := ["numbers"]) (fun _ _ _ _ _ _ us hl => match us, hl with | [_], _ => rfl) fun fd F => ok_blobX F R_NoBlob c_rowT b_bytes
    have c_source : CalT l.prog w K mg base 2 "_law_source" (spSource K) := cal_mk Xb Gb d__law_source (ps := ["_law_script", "_law_at"]) (fun _ _ _ _ _ _ us hl => match us, hl with | [_, _], _ => rfl) fun fd F => ok_source F b_len b_int b_abs b_min b_range
    have c_draw : CalT l.prog w K mg base 2 "_law_draw" spDraw := cal_mk Xb Gb d__law_draw (ps := ["_law_source_here", "_law_many"]) (fun _ _ _ _ _ _ us hl => match us, hl with | [_, _], _ => rfl) fun fd F => ok_draw F b_int
    have c_pick : CalT l.prog w K mg base 4 "_law_pick" spPick := cal_mk Xb Gb d__law_pick (ps := ["_law_source_here", "_law_good", "_law_bad"]) (fun _ _ _ _ _ _ us hl => match us, hl with | [_, _, _], _ => rfl) fun fd F => ok_pick F b_len c_draw
    have g_sdue : CalG l.prog w K mg base 4 "_law_stamps_due" spSDue := calg_mk Xb Gb d__law_stamps_due (ps := ["_law_bits", "_law_time_here"]) (fun _ _ _ _ _ _ us hl => match us, hl with | [_, _], _ => rfl) fun fd F => ok_sdue F b_repr
    have c_rst : CalT l.prog w K mg base 6 "_law_random_stamps" spRSt := cal_mk Xb Gb d__law_random_stamps (ps := ["_law_source_here"]) (fun _ _ _ _ _ _ us hl => match us, hl with | [_], _ => rfl) fun fd F => ok_rst F c_pick
    have c_wrong : CalT l.prog w K mg base 5 "_law_wrong_names" spWrong := cal_mk Xb Gb d__law_wrong_names (ps := []) (fun _ _ _ _ _ _ us hl => match us, hl with | [], _ => rfl) fun fd F => ok_wrong F c_blob
    have e_error : CalL l.prog w K mg base 14 "_law_error" (TTerr c) := ok_error (c := c) (u := u) d__law_error.fn d__law_error.kp (PySem.W.mg_of X G d__law_error.ns) eF b_isinstance b_repr b_ValueError b_TypeError b_OverflowError g_NoName g_NoData g_NoSize g_NoPieces g_NoMode g_NoTime g_NoText g_NoBlob g_NoBlock g_NoMember g_NoCommand g_TooMany
    let T : List (Addr × Str) := [(PA, ("_law_links_right" : Str) ++ ".<locals>.<lambda>"), (PB, ("_law_files_right" : Str) ++ ".<locals>.<lambda>")]
    have g_links : CalG l.prog w K mg base 17 "_law_links_right" (spLinks T) := by
      have one_ : ∀ p ∈ T, p.1 = PA → p.2 = ("_law_links_right" : Str) ++ ".<locals>.<lambda>" := fun p hp e => by
        simp only [T, List.mem_cons, List.not_mem_nil, or_false] at hp
        rcases hp with rfl | rfl
        · first | exact absurd e nP | rfl
        · first | exact absurd e.symm nP | rfl
      exact calc_mk Xb Gb d_links (ps := ["_law_source_here"]) (fun _ _ _ _ _ _ us hl => match us, hl with | [_], _ => rfl) fun fd F => ok_links (kk := ⟨aDirectory, aSymlink, aLink⟩) (c := c) (T := T) F TA (List.mem_cons_self ..) one_ e_error b_repr mk_Directory mk_Symlink mk_Link c_pick c_wrong c_rst g_sdue
    have g_files : CalG l.prog w K mg base 17 "_law_files_right" (spLinks T) := by
      have one_ : ∀ p ∈ T, p.1 = PB → p.2 = ("_law_files_right" : Str) ++ ".<locals>.<lambda>" := fun p hp e => by
        simp only [T, List.mem_cons, List.not_mem_nil, or_false] at hp
        rcases hp with rfl | rfl
        · first | exact absurd e nP | rfl
        · first | exact absurd e.symm nP | rfl
      exact calc_mk Xb Gb d_files (ps := ["_law_source_here"]) (fun _ _ _ _ _ _ us hl => match us, hl with | [_], _ => rfl) fun fd F => ok_files (c := c) (T := T) F TB (List.mem_cons_of_mem _ (List.mem_cons_self ..)) one_ e_error b_repr b_len mk_File mk_Spa c_blob c_pick c_wrong c_rst g_sdue
    have g_berr : CalG l.prog w K mg base 11 "_law_blob_error" spBErr := calg_mk Xb Gb d__law_blob_error (ps := ["_law_value"]) (fun _ _ _ _ _ _ us hl => match us, hl with | [_], _ => rfl) fun fd F => ok_berr (k := 0) F x_NoBlob.g x_NoBlob.no kT kN kX g_NoBlob g_NoData g_NoBlock g_NoMember b_isinstance b_TypeError b_repr x_blob
    have g_blobs : CalG l.prog w K mg base 17 "_law_blobs_right" (spLinks T) := calg_mk Xb Gb d__law_blobs_right (ps := ["_law_source_here"]) (fun _ _ _ _ _ _ us hl => match us, hl with | [_], _ => rfl) fun fd F => ok_blobs F b_range b_repr b_list b_tuple b_len c_draw c_blobT k_blobT g_berr
    exact ok_law F b_range b_max b_min b_len c_source g_blobs g_links g_files
end
end Th
namespace Th
open PySem PySem.Spec PyProof.Rows L2
/-- the goal that a head by facts leaves, from the law's promise -/
theorem walkGE {l : PySem.W.OpenLaw} {n k : Nat} {q : Program} {loose : List Str} {XP : (Str → Option Value) → Heap → Prop} {YP : World → Heap → Prop} {d : DefRec} {sp : World → PySem.W.Frag → Sp} {x : Str}
    (hn : l.most = some n) (hn2 : n ≤ sizeLine) (hdf : d.params.defaults = []) (room : Room k callerA)
    (F : ∀ (w : World) (mg : Str → Option Value) (fa : Addr) (h : Heap), YP w h → h.Ns mainGlobals mg → mg d.name = some (.ref fa) →
      ∃ K : PySem.W.Frag, K.In h ∧ ∃ fd : FuncData, (∀ (s : Shared) (u : Value), BindsTo s fd ⟨[u], []⟩ [(x, u)]) ∧ ∀ base : Heap, K.In base → base.Ns mainGlobals mg → FnG l.prog w K mg base k fa fd [x] (sp w K))
    (hsp : ∀ (w : World) (K : PySem.W.Frag) (H : Hp) (a : Addr) (ns : List Int), ns.length ≤ n → Only H → SqL K H a (ns.map V.int) → sp w K [.ref a] H (fun v _ => v = .bl true) fun _ _ _ => False) :
    PySem.W.WalkO q loose XP YP l.row.toRowW d [] (fun f vs => PySem.call f vs) := by
  apply Att.attach_call hn hdf
  intro w s₀ s₁ mg mb fa o pm cd doc a vs ns G Y ho hd hcd hmg hobj hints hlen hg
  obtain ⟨K, KX, fd, bnd, every⟩ := F w mg fa _ Y G.T.g hmg
  exact lawG KX G.T.g G.T.b G.T.builtins G.T.nolimit hg hobj hints (Nat.le_trans hlen hn2) room every bnd (fun H only sq => hsp w K H a ns hlen only sq)
end Th
/-! the law's own call, where lambdas are made: tables of code objects, nothing being shown -/
namespace Th
open PySem PySem.Spec PyProof.Rows L2
open LamX (TabB)
section
variable {P : Program} {w : World} {K : PySem.W.Frag} {mg : Str → Option Value}
/-- the heap at the law's call: the script, the empty tables -/
def lawH (known : Bool) (a : Addr) (vs : List Value) (ns : List Int) (ts : List Addr) : Hp := fun b =>
  if b = a then (if known = true then none else some (.frz { cls := .type "list", data := .seq vs.toArray } (.lst (ns.map V.int)))) else if b ∈ ts then some (.tbl #[]) else none
theorem lawGT {k : Nat} {mb : Str → Option Value} {fa a : Addr} {tabs : List (Addr × Addr)} {fd : FuncData} {x : Str} {sp : Sp} {s₁ : Shared} {vs : List Value} {ns : List Int}
    (KX : K.In s₁.heap) (glob : s₁.heap.Ns mainGlobals mg) (blt : s₁.heap.Ns builtinsNs mb) (boot : ∀ x : Str, x ≠ "__name__" → mb x = bootBuiltins x) (lim : s₁.heap.NoLimit) (gens : s₁.gens = #[])
    (empty : ∀ t ∈ tabs, s₁.heap.get? t.2 = some { cls := .none, data := .fields #[] }) (out : ∀ t ∈ tabs, K.lookup t.2 = none) (code : ∀ t ∈ tabs, PySem.W.CodeHd s₁.heap t.1 t.2)
    (bmod : ∃ (bm : Addr) (ob : Obj), mg "__builtins__" = some (.ref bm) ∧ bm ≠ builtinsNs ∧ s₁.heap.get? bm = some ob ∧ ob.cls = .type "module" ∧ ob.dict = some builtinsNs ∧ ob.data = .plain)
    (script : s₁.heap.get? a = some { cls := .type "list", data := .seq vs.toArray }) (isInts : IntsAre vs ns) (size : ns.length ≤ sizeLine) (room : Room k callerA)
    (F : ∀ base : Heap, K.In base → base.Ns mainGlobals mg → (∀ t ∈ tabs, TabB base mg t.1 t.2) → FnG P w K mg base k fa fd [x] sp) (bind : ∀ (s : Shared) (u : Value), BindsTo s fd ⟨[u], []⟩ [(x, u)])
    (wish : ∀ H : Hp, (∀ t ∈ tabs, H t.2 = some (.tbl #[])) → SqL K H a (ns.map V.int) → sp [.ref a] H (fun v _ => v = .bl true) fun _ _ _ => False) :
    codeAny (model P w) callerA (.call (.ref fa) ⟨[.ref a], []⟩) (fun r s' => r = .ok (.ret (.bool true)) ∧ OldK s₁.heap s'.heap ∧ s'.os = s₁.os ∧ AllBare s'.gens) s₁ := by
  have rv : Vals (ns.map V.int) vs := vals_ints isInts
  have many : vs.length = ns.length := by have := rv.length; rw [List.length_map] at this; omega
  have tabAt : ∀ b, b ∈ tabs.map (·.2) → ∃ t ∈ tabs, t.2 = b := fun b hb => by
    obtain ⟨t, ht, e⟩ := List.mem_map.mp hb
    exact ⟨t, ht, e⟩
  have tabObj : ∀ b, b ∈ tabs.map (·.2) → s₁.heap.get? b = some { cls := .none, data := .fields #[] } := fun b hb => by
    obtain ⟨t, ht, e⟩ := tabAt b hb
    rw [← e]
    exact empty t ht
  have notTab : a ∉ tabs.map (·.2) := fun z => by
    have e := script.symm.trans (tabObj a z)
    cases congrArg Obj.data (Option.some.inj e)
  let known : Bool := (K.lookup a).isSome
  let H := lawH known a vs ns (tabs.map (·.2))
  have atTab : ∀ t ∈ tabs, H t.2 = some (.tbl #[]) := fun t ht => by
    have m : t.2 ∈ tabs.map (·.2) := List.mem_map.mpr ⟨t, ht, rfl⟩
    show (if t.2 = a then _ else if t.2 ∈ tabs.map (·.2) then some (HO.tbl #[]) else none) = _
    have ne : ¬ t.2 = a := fun z => notTab (by rw [← z]; exact m)
    rw [if_neg ne, if_pos m]
  have seen : ∀ b u, H b = some u → (b = a ∧ known = false ∧ u = .frz { cls := .type "list", data := .seq vs.toArray } (.lst (ns.map V.int))) ∨ (b ∈ tabs.map (·.2) ∧ u = .tbl #[]) := fun b u e => by
    have e' : (if b = a then (if known = true then none else some (HO.frz { cls := .type "list", data := .seq vs.toArray } (.lst (ns.map V.int)))) else if b ∈ tabs.map (·.2) then some (.tbl #[]) else none) = some u := e
    by_cases c1 : b = a
    · rw [if_pos c1] at e'
      cases hk : known with
      | true =>
        rw [hk, if_pos rfl] at e'
        cases e'
      | false =>
        rw [hk, if_neg Bool.false_ne_true] at e'
        exact .inl ⟨c1, rfl, (Option.some.inj e').symm⟩
    · rw [if_neg c1] at e'
      by_cases c2 : b ∈ tabs.map (·.2)
      · rw [if_pos c2] at e'
        exact .inr ⟨c2, (Option.some.inj e').symm⟩
      · rw [if_neg c2] at e'
        cases e'
  have held : HOk P w H s₁.heap := fun b u e => by
    rcases seen b u e with ⟨rfl, _, rfl⟩ | ⟨m, rfl⟩
    · exact ⟨script, by rw [List.length_map]; exact size, vs, _, rv, script⟩
    · exact tabObj b m
  have isSeq : SqL K H a (ns.map V.int) := by
    cases q : K.lookup a with
    | some o =>
      have same := (KX a o q).symm.trans script
      cases Option.some.inj same
      exact .inr ⟨_, vs.toArray, _, q, rfl, rfl, rfl, by rw [List.size_toArray, many]; exact size, rv⟩
    | none =>
      refine .inl (.inr ⟨{ cls := .type "list", data := .seq vs.toArray }, ?_⟩)
      show (if a = a then (if known = true then none else some (HO.frz { cls := .type "list", data := .seq vs.toArray } (.lst (ns.map V.int)))) else _) = _
      rw [if_pos rfl, if_neg (by show ¬ (K.lookup a).isSome = true; rw [q]; exact Bool.false_ne_true)]
  have free : ∀ b o, s₁.heap.get? b = some o → (∀ vs n, o.data ≠ .seq vs n) → o.data ≠ .fields #[] → H b = none := fun b o e n1 n2 => by
    cases q : H b with
    | none => rfl
    | some u =>
      rcases seen b u q with ⟨rfl, _, _⟩ | ⟨m, _⟩
      · rw [script] at e
        cases e
        exact absurd rfl (n1 _ _)
      · rw [tabObj b m] at e
        cases e
        exact absurd rfl n2
  have below : ∀ {b : Addr} {m : Str → Option Value}, s₁.heap.Ns b m → (hidT s₁.heap H).Ns b m := by
    rintro b m ⟨o, es, ep, ho, hd, rest⟩
    exact ⟨o, es, ep, hidT_get ho (free b o ho (fun vs n z => by rw [hd] at z; cases z) fun z => by rw [hd] at z; cases z), hd, rest⟩
  have KB : K.In (hidT s₁.heap H) := fun b o e => by
    refine hidT_get (KX b o e) ?_
    cases q : H b with
    | none => rfl
    | some u =>
      rcases seen b u q with ⟨rfl, un, _⟩ | ⟨m, _⟩
      · have un' : (K.lookup b).isSome = false := un
        rw [e] at un'
        cases un'
      · obtain ⟨t, ht, et⟩ := tabAt b m
        rw [← et, out t ht] at e
        cases e
  obtain ⟨mc, l1, l2⟩ := lim
  have modl : Mod K mg (hidT s₁.heap H) := ⟨KB, below glob, ⟨mb, below blt, boot⟩, ⟨mc, below l1, l2⟩⟩
  have TB : ∀ t ∈ tabs, TabB (hidT s₁.heap H) mg t.1 t.2 := fun t ht => by
    refine ⟨?_, ?_, fun z => ?_⟩
    · obtain ⟨o, us, file, tf, flags, tg, inF, text, tt, e1, r1, r2, r3, rest⟩ := code t ht
      refine ⟨o, us, file, tf, flags, tg, inF, text, tt, hidT_get e1 (free t.1 o e1 (fun vs n z => by rw [r2] at z; cases z) fun z => ?_), r1, r2, r3, rest⟩
      rw [r2] at z
      cases z
      simp at r3
    · obtain ⟨bm, ob, b1, b2, b3, b4, b5, b6⟩ := bmod
      have n1 : bm ≠ mainGlobals := fun q => by
        obtain ⟨o, es, ep, e, hd, _⟩ := glob
        rw [q, e] at b3
        cases b3
        rw [hd] at b6
        cases b6
      have n2 : bm ≠ t.2 := fun q => by
        rw [q, empty t ht] at b3
        cases b3
        cases b6
      exact ⟨bm, ob, b1, b2, n1, n2, hidT_get b3 (free bm ob b3 (fun vs n z => by rw [b6] at z; cases z) fun z => by rw [b6] at z; cases z), b4, b5, b6⟩
    · obtain ⟨o, es, ep, e, hd, _⟩ := glob
      rw [z, empty t ht] at e
      cases e
      cases hd
  have none_ : ∀ b ∈ frs [], H b = none := fun b z => by cases z
  have start_ : Env0 P w K mg (hidT s₁.heap H) callerA [] s₁ H := ⟨rfl, modl, fun b o e => of_hidT e, by rw [hidT_size]; exact Nat.le_refl _, trivial, none_, held, .of_eq gens⟩
  have ran := (F _ KB (below glob) TB).run callerA [] s₁ H ⟨[.ref a], []⟩ [.ref a] [.ref a] _ _ room rfl start_ (bind s₁ (.ref a)) (.cons rfl .nil) (wish H atTab isSeq)
  refine codeAny_mono ran ?_
  intro r s' z
  cases r with
  | error e => exact False.elim z
  | ok fl =>
    cases fl with
    | next => exact False.elim z
    | brk => exact False.elim z
    | cont => exact False.elim z
    | ret u =>
      obtain ⟨v, H', os, bare, un, held', rel, isT⟩ := z
      have isT' : v = .bl true := isT
      rw [isT'] at rel
      have hu : u = Value.bool true := rel
      have kept : ∀ b o, b ∉ tabs.map (·.2) → s₁.heap.get? b = some o → s'.heap.get? b = some o := fun b o nb e => by
        cases q : H b with
        | none => exact un.keep b o e q (fun z => by cases z) (fun z => by cases z)
        | some y =>
          rcases seen b y q with ⟨rfl, _, rfl⟩ | ⟨m, _⟩
          · have ⟨g1, _⟩ := held b _ q
            have ⟨g2, _⟩ := held' b _ (un.frzs b _ _ q)
            rw [e] at g1
            cases g1
            exact g2
          · exact absurd m nb
      have grown : ∀ t ∈ tabs, ∃ more : Array Value, s'.heap.get? t.2 = some { cls := .none, data := .fields more } := fun t ht => by
        obtain ⟨more, z⟩ := un.tbls t.2 #[] (atTab t ht)
        exact ⟨_, held' t.2 _ z⟩
      refine ⟨by rw [hu], ⟨fun b o e => ?_, fun b o e => ?_⟩, os, bare⟩
      · by_cases m : b ∈ tabs.map (·.2)
        · obtain ⟨t, ht, rfl⟩ := tabAt b m
          obtain ⟨more, hm⟩ := grown t ht
          have e' := e.symm.trans (empty t ht)
          cases Option.some.inj e'
          exact .inr (.inl ⟨((code t ht).tab (empty t ht)).isCodeTable, rfl, #[], more, rfl, by rw [Array.empty_append]; exact hm⟩)
        · exact .inl (kept b o m e)
      · by_cases m : b ∈ tabs.map (·.2)
        · obtain ⟨t, ht, rfl⟩ := tabAt b m
          obtain ⟨more, hm⟩ := grown t ht
          exact ⟨_, hm⟩
        · exact ⟨o, kept b o m e⟩
end
/-- the goal that a head by facts leaves, from the law's promise, with tables -/
theorem walkGT {l : PySem.W.OpenLaw} {n k : Nat} {q : Program} {loose : List Str} {XP : (Str → Option Value) → Heap → Prop} {YP : World → Heap → Prop} {d : DefRec} {sp : World → PySem.W.Frag → List (Addr × Addr) → Sp} {x : Str}
    (hn : l.most = some n) (hn2 : n ≤ sizeLine) (hdf : d.params.defaults = []) (room : Room k callerA)
    (F : ∀ (w : World) (mg : Str → Option Value) (fa : Addr) (h : Heap), YP w h → h.Ns mainGlobals mg → mg d.name = some (.ref fa) →
      ∃ (K : PySem.W.Frag) (tabs : List (Addr × Addr)), K.In h ∧ (∀ t ∈ tabs, h.get? t.2 = some { cls := .none, data := .fields #[] }) ∧ (∀ t ∈ tabs, K.lookup t.2 = none) ∧ (∀ t ∈ tabs, PySem.W.CodeHd h t.1 t.2) ∧
        ∃ fd : FuncData, (∀ (s : Shared) (u : Value), BindsTo s fd ⟨[u], []⟩ [(x, u)]) ∧ ∀ base : Heap, K.In base → base.Ns mainGlobals mg → (∀ t ∈ tabs, TabB base mg t.1 t.2) → FnG l.prog w K mg base k fa fd [x] (sp w K tabs))
    (hsp : ∀ (w : World) (K : PySem.W.Frag) (tabs : List (Addr × Addr)) (H : Hp) (a : Addr) (ns : List Int), ns.length ≤ n → (∀ t ∈ tabs, H t.2 = some (.tbl #[])) → SqL K H a (ns.map V.int) → sp w K tabs [.ref a] H (fun v _ => v = .bl true) fun _ _ _ => False) :
    PySem.W.WalkO q loose XP YP l.row.toRowW d [] (fun f vs => PySem.call f vs) := by
  apply Att.attach_callB hn hdf
  intro w s₀ s₁ mg mb fa o pm cd doc a vs ns G Y ho hd hcd hmg hobj hints hlen hbits hg
  obtain ⟨K, tabs, KX, t1, t2, t3, fd, bnd, every⟩ := F w mg fa _ Y G.T.g hmg
  exact lawGT KX G.T.g G.T.b G.T.builtins G.T.nolimit hg t1 t2 t3 G.T.bmain hobj hints (Nat.le_trans hlen hn2) room every bnd (fun H h1 h2 => hsp w K tabs H a ns hlen h1 h2)
end Th
namespace Th
open PySem PySem.Spec PyProof.Rows L2
theorem defF_of {K : PySem.W.Frag} {x : Str} {st : Stmt} {f : Addr} (a : PySem.W.nsIn K mainGlobals x = some (some (.ref f))) (b : Hk.FnAt K x x st f ∧ PySem.W.keepIn K (.ref f) = true) : DefF K x st f := ⟨a, b.1, b.2⟩
theorem xF_of {K : PySem.W.Frag} {x qual fld : Str} {C fI : Addr} {st : Stmt} {B newId initId B' : String} {bmA bm : List Value} (ns : PySem.W.nsIn K mainGlobals x = some (some (.ref C))) (FB : PySem.ExcBaseFacts B newId initId bmA) (SF : PySem.StoreFacts B' bm "object.__setattr__" "object")
    (t : bm.contains (.type B) = true ∧ bm.contains (.type "AttributeError") = false ∧ bm.contains (.type "NameError") = false)
    (e : PySem.W.excInitIn K C bm newId = true ∧ PySem.W.excOver K C bm = true ∧ PySem.W.findIn K (.ref C) "__setattr__" = some (some (.builtin "object.__setattr__")) ∧ PySem.W.findIn K (.ref C) "__init__" = some (some (.ref fI)) ∧
    PySem.W.typeIn K (.ref fI) = some (.type "function") ∧ PySem.W.keepIn K (.ref C) = true ∧ PySem.W.findIn K (.ref C) "__getattribute__" = some (some (.builtin "BaseException.__getattribute__")) ∧ PySem.W.findIn K (.ref C) "__getattr__" = some none ∧
    PySem.W.subIn K (.ref C) (.type "BaseException") = some true ∧ PySem.W.hasDictIn K C = true ∧ Hk.kindB K C = true ∧ PySem.W.typeIn K (.ref C) = some (.type "type"))
    (no : PySem.W.findIn K (.ref C) fld = some none) (f : Hk.FnAt K "__init__" qual st fI ∧ PySem.W.keepIn K (.ref fI) = true) : XF K x qual C fI st fld := by
  obtain ⟨a1, a2, a3, a4, a5, a6, a7, a8, a9, a10, a11, a12⟩ := e
  obtain ⟨k1, k2, k3, k4⟩ := Hk.kindB_ok a11
  exact ⟨ns, ⟨⟨B, newId, initId, bmA, B', bm, FB, SF, a1, a2, t.1, t.2.1, t.2.2⟩, a3, a4, a5, a6, a7, a8, a9, a10, k1, k3, k4, k2⟩, a12, no, f.1, f.2⟩
theorem defC_of {K : PySem.W.Frag} {x : Str} {st : Stmt} (a : PySem.W.nsIn K mainGlobals x = some (some (.ref (He.ga K x)))) (b : Hk.FnAt K x x st (He.ga K x) ∧ PySem.W.keepIn K (.ref (He.ga K x)) = true) : DefC K x st (He.ga K x) (He.codeOf K (x, none)) := by
  obtain ⟨⟨oc, od, an, kV, doc, pm, cdv, ct, osl, l, c⟩, kp⟩ := b
  obtain ⟨c0, rfl⟩ := He.codeIn_ref c
  have e : He.codeOf K (x, none) = c0 := He.codeOf_eq (p := (x, none)) l rfl
  rw [e]
  exact ⟨a, ⟨oc, od, an, kV, doc, pm, ct, osl, l, c⟩, kp⟩
theorem errF_of {K : PySem.W.Frag} {N D M T S P X B KK Mb C Y iN iD iS iP iM iT : Addr} {x1 x2 x3 x4 x5 x6 q1 q2 q3 q4 q5 q6 : Str} {s1 s2 s3 s4 s5 s6 : Stmt} (XN : XF K x1 q1 N iN s1 "name") (XD : XF K x2 q2 D iD s2 "thing") (XS : XF K x3 q3 S iS s3 "size") (XP : XF K x4 q4 P iP s4 "pieces") (XM : XF K x5 q5 M iM s5 "mode") (XT : XF K x6 q6 T iT s6 "time")
    (m : ∀ q ∈ [(N, N, true), (D, N, false), (D, D, true), (S, N, false), (S, D, false), (S, S, true), (P, N, false), (P, D, false), (P, S, false), (P, P, true)], PySem.W.exmOne K (.ref q.1) (.ref q.2.1) = some q.2.2)
    (m2 : ∀ q ∈ [(M, N, false), (M, D, false), (M, S, false), (M, P, false), (M, M, true), (T, N, false), (T, D, false), (T, S, false), (T, P, false), (T, M, false), (T, T, true)], PySem.W.exmOne K (.ref q.1) (.ref q.2.1) = some q.2.2)
    (b : ∀ q ∈ [(N, "ValueError"), (D, "TypeError"), (S, "ValueError"), (P, "ValueError"), (M, "ValueError"), (T, "OverflowError")], PySem.W.kitOne K (.ref q.1) (.type q.2) = some true)
    (n : ∀ q ∈ [(S, P), (P, M), (M, C), (T, Y)], PySem.W.kitOne K (.ref q.1) (.ref q.2) = some false)
    (nN : PySem.W.kitAny K (.ref N) [.ref M, .ref X] = some false) (nD : PySem.W.kitAny K (.ref D) [.ref B, .ref KK, .ref Mb] = some false) : ErrF K ⟨N, D, M, T, S, P⟩ ⟨X, B, KK, Mb, C, Y⟩ := by
  refine ⟨fun q hq => ?_, m, m2, b, n, nN, nD⟩
  simp only [etab, List.mem_cons, List.not_mem_nil, or_false] at hq
  rcases hq with rfl | rfl | rfl | rfl | rfl | rfl
  · exact ⟨⟨_, XN.g⟩, XN.no⟩
  · exact ⟨⟨_, XD.g⟩, XD.no⟩
  · exact ⟨⟨_, XS.g⟩, XS.no⟩
  · exact ⟨⟨_, XP.g⟩, XP.no⟩
  · exact ⟨⟨_, XM.g⟩, XM.no⟩
  · exact ⟨⟨_, XT.g⟩, XT.no⟩
theorem iniF_of {K : PySem.W.Frag} {qual : Str} {st : Stmt} {b : Int} {f : Addr} (h : Hk.FnAt K "__init__" qual st f ∧ PySem.W.keepIn K (.ref f) = true) (q : Hk.kwsV K f [("mode", .int b), ("time", .int 0)] = true) : IniF K qual st b f := by
  obtain ⟨⟨oc, od, an, kV, doc, pm, cdv, ct, osl, l, cd⟩, kp⟩ := h
  obtain ⟨D, e, v⟩ := Hk.kwsV_ok q
  obtain rfl := Hk.kwAt_ok l e
  obtain ⟨t1, e1⟩ := Hk.nsI (v ("mode", .int b) (by simp))
  obtain ⟨t2, e2⟩ := Hk.nsI (v ("time", .int 0) (by simp))
  exact ⟨⟨oc, od, D, doc, pm, an, cdv, ct, osl, t1, t2, l, cd, e1, e2⟩, kp⟩
theorem tabs0 {tabs : List (Addr × Addr)} {qs : List Str} {H : Hp} (ht : ∀ t ∈ tabs, H t.2 = some (.tbl #[])) : LamX.Tabs ((tabs.map (·.2)).zip qs) H := fun p hp => by
  obtain ⟨t, h1, h2⟩ := List.mem_map.mp (List.of_mem_zip hp).1
  refine ⟨#[], by rw [← h2]; exact ht t h1, trivial, fun pos cv h => by cases h⟩
end Th
namespace Hd
open PySem PySem.Spec PyProof.Rows L2
theorem facts_ {l : PySem.W.OpenLaw} {w : World} {K : PySem.W.Frag} {h : Heap} {mg : Str → Option Value} {fa_ : Addr} (X : K.In h) (G : h.Ns mainGlobals mg) (hfa : mg "law" = some (.ref fa_)) (c : ∀ x ∈ cks, x.Says w K) :
    ∃ fd : FuncData, (∀ (s : Shared) (v : Value), BindsTo s fd ⟨[v], []⟩ [("_law_script", v)]) ∧ ∀ base : Heap, K.In base → base.Ns mainGlobals mg → LamX.TabB base mg (He.cT K ("_law_links_right", none)).1 (He.cT K ("_law_links_right", none)).2 → LamX.TabB base mg (He.cT K ("_law_files_right", none)).1 (He.cT K ("_law_files_right", none)).2 → Th.FnG l.prog w K mg base 18 fa_ fd ["_law_script"] (Th.spLawT K [((He.cT K ("_law_links_right", none)).2, ("_law_links_right" : PySem.Str) ++ ".<locals>.<lambda>"), ((He.cT K ("_law_files_right", none)).2, ("_law_files_right" : PySem.Str) ++ ".<locals>.<lambda>")]) := by
  have f0 : Hk.SaysX fa0_ [] [] w K := c ck_f0 (by simp [cks])
  have f1 : Hk.SaysX fa1_ [] [] w K := c ck_f1 (by simp [cks])
  have d0 : Hk.SaysX [] fn0_ ts w K := c ck_d0 (by simp [cks])
  obtain ⟨_, n_MOST_CHARACTERS⟩ := Hk.nsI (f1.fact 5)
  obtain ⟨_, n_NAME_CHARACTERS⟩ := Hk.nsS (f1.fact 6)
  obtain ⟨_, n_MOST_BYTES⟩ := Hk.nsI (f1.fact 7)
  obtain ⟨_, n_MOST_PIECES⟩ := Hk.nsI (f1.fact 8)
  obtain ⟨_, n_LAST_MODE⟩ := Hk.nsI (f1.fact 9)
  obtain ⟨_, n_LAST_TIME⟩ := Hk.nsI (f1.fact 10)
  have XN : Th.XF K "NoName" "NoName.__init__" (He.ga K "NoName") (He.ma K (He.ga K "NoName") "__init__") Th.s_NoName___init__ "name" := (Th.xF_of (He.eqO_ok (f0.fact 29)) PySem.F.excBase_ValueError PySem.F.store_ValueError (by decide +kernel) (Hk.exgB_ok (f0.fact 30)) (He.eqO_ok (f0.fact 31)) (d0.def_ 29 (d := Hd.fn_29)))
  have XD : Th.XF K "NoData" "NoData.__init__" (He.ga K "NoData") (He.ma K (He.ga K "NoData") "__init__") Th.s_NoData___init__ "thing" := (Th.xF_of (He.eqO_ok (f0.fact 32)) PySem.F.excBase_TypeError PySem.F.store_TypeError (by decide +kernel) (Hk.exgB_ok (f0.fact 33)) (He.eqO_ok (f0.fact 34)) (d0.def_ 30 (d := Hd.fn_30)))
  have XS : Th.XF K "NoSize" "NoSize.__init__" (He.ga K "NoSize") (He.ma K (He.ga K "NoSize") "__init__") Th.s_NoSize___init__ "size" := (Th.xF_of (He.eqO_ok (f0.fact 35)) PySem.F.excBase_ValueError PySem.F.store_ValueError (by decide +kernel) (Hk.exgB_ok (f0.fact 36)) (He.eqO_ok (f0.fact 37)) (d0.def_ 31 (d := Hd.fn_31)))
  have XP : Th.XF K "NoPieces" "NoPieces.__init__" (He.ga K "NoPieces") (He.ma K (He.ga K "NoPieces") "__init__") Th.s_NoPieces___init__ "pieces" := (Th.xF_of (He.eqO_ok (f0.fact 38)) PySem.F.excBase_ValueError PySem.F.store_ValueError (by decide +kernel) (Hk.exgB_ok (f0.fact 39)) (He.eqO_ok (f0.fact 40)) (d0.def_ 32 (d := Hd.fn_32)))
  have XM : Th.XF K "NoMode" "NoMode.__init__" (He.ga K "NoMode") (He.ma K (He.ga K "NoMode") "__init__") Th.s_NoMode___init__ "mode" := (Th.xF_of (He.eqO_ok (f0.fact 41)) PySem.F.excBase_ValueError PySem.F.store_ValueError (by decide +kernel) (Hk.exgB_ok (f0.fact 42)) (He.eqO_ok (f0.fact 43)) (d0.def_ 33 (d := Hd.fn_33)))
  have XT : Th.XF K "NoTime" "NoTime.__init__" (He.ga K "NoTime") (He.ma K (He.ga K "NoTime") "__init__") Th.s_NoTime___init__ "time" := (Th.xF_of (He.eqO_ok (f0.fact 44)) PySem.F.excBase_OverflowError PySem.F.store_OverflowError (by decide +kernel) (Hk.exgB_ok (f0.fact 45)) (He.eqO_ok (f0.fact 46)) (d0.def_ 34 (d := Hd.fn_34)))
  exact Th.all_mk X G hfa
    (Th.defF_of (He.eqO_ok (f0.fact 0)) (d0.def_ 0 (d := Hd.fn_0)))
    (Th.defF_of (He.eqO_ok (f0.fact 1)) (d0.def_ 1 (d := Hd.fn_1)))
    (Th.defF_of (He.eqO_ok (f0.fact 2)) (d0.def_ 2 (d := Hd.fn_2)))
    (Th.defF_of (He.eqO_ok (f0.fact 3)) (d0.def_ 3 (d := Hd.fn_3)))
    (Th.defF_of (He.eqO_ok (f0.fact 4)) (d0.def_ 4 (d := Hd.fn_4)))
    (Th.defF_of (He.eqO_ok (f0.fact 5)) (d0.def_ 5 (d := Hd.fn_5)))
    (Th.defF_of (He.eqO_ok (f0.fact 6)) (d0.def_ 6 (d := Hd.fn_6)))
    (Th.defF_of (He.eqO_ok (f0.fact 7)) (d0.def_ 7 (d := Hd.fn_7)))
    (Th.defF_of (He.eqO_ok (f0.fact 8)) (d0.def_ 8 (d := Hd.fn_8)))
    (Th.defF_of (He.eqO_ok (f0.fact 9)) (d0.def_ 9 (d := Hd.fn_9)))
    (Th.defF_of (He.eqO_ok (f0.fact 10)) (d0.def_ 10 (d := Hd.fn_10)))
    (Th.defF_of (He.eqO_ok (f0.fact 11)) (d0.def_ 11 (d := Hd.fn_11)))
    (Th.defF_of (He.eqO_ok (f0.fact 12)) (d0.def_ 12 (d := Hd.fn_12)))
    (Th.defF_of (He.eqO_ok (f0.fact 13)) (d0.def_ 13 (d := Hd.fn_13)))
    (Th.defF_of (He.eqO_ok (f0.fact 14)) (d0.def_ 14 (d := Hd.fn_14)))
    (Th.defF_of (He.eqO_ok (f0.fact 15)) (d0.def_ 15 (d := Hd.fn_15)))
    (Th.defF_of (He.eqO_ok (f0.fact 16)) (d0.def_ 16 (d := Hd.fn_16)))
    (Th.defF_of (He.eqO_ok (f0.fact 17)) (d0.def_ 17 (d := Hd.fn_17)))
    (Th.defF_of (He.eqO_ok (f0.fact 18)) (d0.def_ 18 (d := Hd.fn_18)))
    (Th.defF_of (He.eqO_ok (f0.fact 19)) (d0.def_ 19 (d := Hd.fn_19)))
    (Th.defF_of (He.eqO_ok (f0.fact 20)) (d0.def_ 20 (d := Hd.fn_20)))
    (Th.defF_of (He.eqO_ok (f0.fact 21)) (d0.def_ 21 (d := Hd.fn_21)))
    (Th.defF_of (He.eqO_ok (f0.fact 22)) (d0.def_ 22 (d := Hd.fn_22)))
    (Th.defF_of (He.eqO_ok (f0.fact 23)) (d0.def_ 23 (d := Hd.fn_23)))
    (Th.defF_of (He.eqO_ok (f0.fact 24)) (d0.def_ 24 (d := Hd.fn_24)))
    (Th.defF_of (He.eqO_ok (f0.fact 25)) (d0.def_ 25 (d := Hd.fn_25)))
    (Th.defF_of (He.eqO_ok (f0.fact 26)) (d0.def_ 26 (d := Hd.fn_26)))
    (Th.defC_of (He.eqO_ok (f0.fact 27)) (d0.def_ 27 (d := Hd.fn_27)))
    (Th.defC_of (He.eqO_ok (f0.fact 28)) (d0.def_ 28 (d := Hd.fn_28)))
    (Th.xF_of (He.eqO_ok (f0.fact 29)) PySem.F.excBase_ValueError PySem.F.store_ValueError (by decide +kernel) (Hk.exgB_ok (f0.fact 30)) (He.eqO_ok (f0.fact 31)) (d0.def_ 29 (d := Hd.fn_29)))
    (Th.xF_of (He.eqO_ok (f0.fact 32)) PySem.F.excBase_TypeError PySem.F.store_TypeError (by decide +kernel) (Hk.exgB_ok (f0.fact 33)) (He.eqO_ok (f0.fact 34)) (d0.def_ 30 (d := Hd.fn_30)))
    (Th.xF_of (He.eqO_ok (f0.fact 35)) PySem.F.excBase_ValueError PySem.F.store_ValueError (by decide +kernel) (Hk.exgB_ok (f0.fact 36)) (He.eqO_ok (f0.fact 37)) (d0.def_ 31 (d := Hd.fn_31)))
    (Th.xF_of (He.eqO_ok (f0.fact 38)) PySem.F.excBase_ValueError PySem.F.store_ValueError (by decide +kernel) (Hk.exgB_ok (f0.fact 39)) (He.eqO_ok (f0.fact 40)) (d0.def_ 32 (d := Hd.fn_32)))
    (Th.xF_of (He.eqO_ok (f0.fact 41)) PySem.F.excBase_ValueError PySem.F.store_ValueError (by decide +kernel) (Hk.exgB_ok (f0.fact 42)) (He.eqO_ok (f0.fact 43)) (d0.def_ 33 (d := Hd.fn_33)))
    (Th.xF_of (He.eqO_ok (f0.fact 44)) PySem.F.excBase_OverflowError PySem.F.store_OverflowError (by decide +kernel) (Hk.exgB_ok (f0.fact 45)) (He.eqO_ok (f0.fact 46)) (d0.def_ 34 (d := Hd.fn_34)))
    (Th.xF_of (He.eqO_ok (f0.fact 47)) PySem.F.excBase_TypeError PySem.F.store_TypeError (by decide +kernel) (Hk.exgB_ok (f0.fact 48)) (He.eqO_ok (f0.fact 49)) (d0.def_ 35 (d := Hd.fn_35)))
    (He.eqO_ok (f0.fact 50))
    (He.eqO_ok (f0.fact 51))
    (He.eqO_ok (f0.fact 52))
    (He.eqO_ok (f0.fact 53))
    (He.eqO_ok (f0.fact 54))
    ⟨He.eqO_ok (f0.fact 55), Hk.clsB_ok (f0.fact 56), Hk.mkB_ok (f0.fact 57), Hk.noB_ok (f0.fact 58)⟩
    ⟨He.eqO_ok (f0.fact 59), Hk.clsB_ok (f0.fact 60), Hk.mkB_ok (f0.fact 61), Hk.noB_ok (f0.fact 62)⟩
    ⟨He.eqO_ok (f0.fact 63), Hk.clsB_ok (f0.fact 64), Hk.mkB_ok (f0.fact 65), Hk.noB_ok (f0.fact 66)⟩
    ⟨He.eqO_ok (f0.fact 67), Hk.clsB_ok (f0.fact 68), Hk.mkB_ok (f0.fact 69), Hk.noB_ok (f0.fact 70)⟩
    ⟨He.eqO_ok (f0.fact 71), Hk.clsB_ok (f0.fact 72), Hk.mkB_ok (f0.fact 73), Hk.noB_ok (f0.fact 74)⟩
    (Th.iniF_of (d0.def_ 36 (d := Hd.fn_36)) (f1.fact 0))
    (Th.iniF_of (d0.def_ 37 (d := Hd.fn_37)) (f1.fact 1))
    (Th.iniF_of (d0.def_ 38 (d := Hd.fn_38)) (f1.fact 2))
    (Th.iniF_of (d0.def_ 39 (d := Hd.fn_39)) (f1.fact 3))
    (Th.iniF_of (d0.def_ 40 (d := Hd.fn_40)) (f1.fact 4))
    n_MOST_CHARACTERS
    n_NAME_CHARACTERS
    n_MOST_BYTES
    n_MOST_PIECES
    n_LAST_MODE
    n_LAST_TIME
    (Th.errF_of XN XD XS XP XM XT (Hk.exmsB_ok (f1.fact 11)) (Hk.exmsB_ok (f1.fact 12)) (Hk.kitsT_ok (f1.fact 13)) (Hk.kitsF_ok (f1.fact 14)) (of_decide_eq_true (f1.fact 15)) (of_decide_eq_true (f1.fact 16)))
    (of_decide_eq_true (f1.fact 17))
    (of_decide_eq_true (f1.fact 18))
    (of_decide_eq_true (f1.fact 19))
    (of_decide_eq_true (f1.fact 20))
    (fun b hb => He.eqO_ok (List.all_eq_true.mp (show ((["isinstance", "bool", "int", "list", "tuple", "dict", "all", "bytes", "len", "abs", "min", "max", "range", "repr", "str", "ValueError", "TypeError", "OverflowError"] : List Str).all fun b => Hk.freeV b K) = true from (f1.fact 21)) b hb))
end Hd
open PySem PySem.W PySem.Calls PyProof.Rows
set_option maxRecDepth 100000 in
set_option maxHeartbeats 0 in
theorem PySem.Challenge.cw_tarhouse_k02_members_refused_holds : PySem.Challenge.rw_tarhouse_k02_members_refused.Holds := by
  w_on; o_law
  refine HandSHeadRun.head_any (r := OpenLaw.row PySem.Challenge.rw_tarhouse_k02_members_refused) (q := Hd.qv) (H := Hd.hk) (ob := Hd.ob) (M := 7000) (loose := Hd.names) (d := HandSHeadRun.topDef (OpenLaw.row PySem.Challenge.rw_tarhouse_k02_members_refused).prog 59) (kwd := []) Hd.ob_eq
    (by kernel_rfl) (fun s => by kernel_rfl) Hd.run (by kernel_rfl) (by kernel_rfl) (by kernel_rfl) (by rfl) (by first | assumption | decide +kernel) (by decide +kernel) ⟨rfl, rfl, rfl, rfl, rfl, by decide +kernel⟩ ?hw ?hc
  case hw => w_witness2
  case hc =>
    refine Th.walkGT (l := PySem.Challenge.rw_tarhouse_k02_members_refused) (n := 63) (k := 18) (x := "_law_script") (sp := fun _ K tabs => Th.spLawT K ((tabs.map (·.2)).zip [("_law_links_right" : PySem.Str) ++ ".<locals>.<lambda>", ("_law_files_right" : PySem.Str) ++ ".<locals>.<lambda>"])) rfl (by decide) (by kernel_rfl) ⟨rfl, by decide, by decide⟩ ?F (fun _ _ _ _ a ns hl ht hS => ⟨a, ns, rfl, hS, hl, Th.tabs0 ht, fun _ => rfl⟩)
    intro w mg fa h Y G hmg0
    obtain ⟨K, KX, c⟩ := Y
    have hmg : mg ("law" : PySem.Str) = some (.ref fa) := by
      have e : (HandSHeadRun.topDef (OpenLaw.row PySem.Challenge.rw_tarhouse_k02_members_refused).prog 59).name = ("law" : PySem.Str) := by kernel_rfl
      rw [← e]
      exact hmg0
    obtain ⟨fd, b, r⟩ := Hd.facts_ KX G hmg c.t
    exact ⟨K, Hd.tt K, KX, c.empty, c.out, fun t ht => PySem.W.codeHd_of_K KX (c.hd t ht), fd, b, fun base Xb Gb tb => r base Xb Gb (tb _ (List.mem_cons_self ..)) (tb _ (List.mem_cons_of_mem _ (List.mem_cons_self ..)))⟩
