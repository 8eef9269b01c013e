import PyProof.Rows.All
import Wide.All
import OpenK.AllK
import Wide.FinOn
import KE.KStateDown
import HandS.Head0
import HandS.Head1
import HandS.Head2
import HandS.HeadHook1
import HandS.HeadHook2
import HandS.HeadHook3
import KE.KIsAll
import HandS.Words
import HandS.ClsMeth
import HandS.ForMost
import HandS.IsInst
import HandS.Flow
import HandS.Wide
import HandS.Defaults
import HandS.Codes
import HandS.Bytes
import HandS.StrMore
import HandS.Walk
import HandS.More
import HandS.Conv
import HandS.Style
import HandS.FStr
import HandS.Star
import HandS.MakeKwOnly
import HandS.BytesMake
import KE.KBytesNew
import HandS.Text
import HandS.SetKeys
import HandS.DictComp
import HandS.Iter
import KE.KStar
import HandS.Comp
import HandS.OwnEq
import HandS.SlotsOwn
import PyProof.NeKinds
import KE.KStrBytes
import KE.KxField
import PyProof.FString3
import HandS.MapSum
import KE.BytesMulAny
import PyProof.Rows.SumAny
import PyProof.ListStr
import PyProof.EqKinds
import Wide.BytesRules
import HandS.HeadEnd
import HandS.Property
import PySem.Challenge.RW_tarhouse_k32_houses_compared
set_option Elab.async false
set_option linter.all false
set_option maxRecDepth 100000
set_option maxHeartbeats 8000000
/-! the head by one kernel run, with facts told by Bools over the part that the names reach -/
namespace Hk
open PySem PySem.Spec PyProof.Rows L2
open He (ga ma eqO relB FnV)
/-! ### the whole heap as a list, the newest first, its spine forced -/
def frU {β : Type} (g : Addr → Option Obj) : Nat → Nat → List (Addr × Obj) → (List (Addr × Obj) → β) → β
  | 0, _, acc, k => k acc
  | m + 1, i, acc, k => match g i with
    | some o => HandSHeadRun.frNat (i + 1) fun j => frU g m j ((i, o) :: acc) k
    | none => HandSHeadRun.frNat (i + 1) fun j => frU g m j acc k
/-- the same, not forced -/
def allU (g : Addr → Option Obj) : Nat → Nat → List (Addr × Obj) → List (Addr × Obj)
  | 0, _, acc => acc
  | m + 1, i, acc => match g i with
    | some o => allU g m (i + 1) ((i, o) :: acc)
    | none => allU g m (i + 1) acc
theorem frU_eq {β : Type} {g : Addr → Option Obj} {k : List (Addr × Obj) → β} : ∀ {m i : Nat} {acc : List (Addr × Obj)}, frU g m i acc k = k (allU g m i acc)
  | 0, _, _ => rfl
  | m + 1, i, acc => by
    unfold frU allU
    cases g i with
    | some o =>
      show HandSHeadRun.frNat (i + 1) (fun j => frU g m j ((i, o) :: acc) k) = _
      rw [HandSHeadRun.frNat_eq]
      exact frU_eq
    | none =>
      show HandSHeadRun.frNat (i + 1) (fun j => frU g m j acc k) = _
      rw [HandSHeadRun.frNat_eq]
      exact frU_eq
theorem lookup_at {a : Addr} {o : Obj} : ∀ {l : List (Addr × Obj)}, l.lookup a = some o → (a, o) ∈ l
  | [], h => by cases h
  | (b, u) :: r, h => by
    have e2 : (match a == b with | true => some u | false => r.lookup a) = some o := h
    cases q : (a == b) with
    | true =>
      rw [q] at e2
      have eo : u = o := Option.some.inj e2
      rw [beq_iff_eq.mp q, eo]
      exact .head _
    | false =>
      rw [q] at e2
      exact .tail _ (lookup_at e2)
theorem allU_mem {g : Addr → Option Obj} : ∀ {m i : Nat} {acc : List (Addr × Obj)}, (∀ p ∈ acc, g p.1 = some p.2) → ∀ p ∈ allU g m i acc, g p.1 = some p.2
  | 0, _, _, h => h
  | m + 1, i, acc, h => by
    unfold allU
    cases e : g i with
    | some o =>
      refine allU_mem (acc := (i, o) :: acc) fun p hp => ?_
      cases hp with
      | head => exact e
      | tail _ q => exact h p q
    | none => exact allU_mem h
theorem allU_in {h : Heap} {m : Nat} : (show PySem.W.Frag from allU h.get? m 0 []).In h := fun a o e => allU_mem (g := h.get?) (acc := []) (fun _ z => by cases z) (a, o) (lookup_at e)
/-! ### defs -/
structure FnP where
  at_ : PySem.W.Frag → Addr
  name : Str
  qual : Str
  st : Stmt
def fnV (K : PySem.W.Frag) (a : Addr) : FnV := match K.lookup a with
  | some ⟨_, _, .func fd, _⟩ => some (fd.name, fd.qualname, fd.params, fd.body, fd.scope, fd.globals, fd.closure, fd.defaults, fd.builtins)
  | _ => none
def FnP.val (d : FnP) : FnV := some (d.name, d.qual, defArgs d.st, .stmts (defBody d.st), defScope d.st, mainGlobals, [], .none, builtinsNs)
def FnP.ok (d : FnP) (K : PySem.W.Frag) : Bool := PySem.W.keepIn K (.ref (d.at_ K)) && (match K.lookup (d.at_ K) with
  | some ⟨_, _, .func fd, _⟩ => PySem.W.codeIn K fd.code d.qual
  | _ => false)
/-- a def's object, as the head leaves it -/
def FnAt (K : PySem.W.Frag) (x q : Str) (st : Stmt) (f : Addr) : Prop := ∃ (oc : Value) (od an : Option Addr) (kV doc pm cdv ct : Value) (osl : Array (Option Value)), K.lookup f = some ⟨oc, od, .func (PySem.W.fnOf x q (defArgs st) (defBody st) (defScope st) .none kV doc pm an cdv ct), osl⟩ ∧ PySem.W.codeIn K cdv q = true
theorem fn_ok {K : PySem.W.Frag} {d : FnP} (e : fnV K (d.at_ K) = d.val) (c : d.ok K = true) : FnAt K d.name d.qual d.st (d.at_ K) ∧ PySem.W.keepIn K (.ref (d.at_ K)) = true := by
  obtain ⟨kp, c2⟩ := He.ba c
  refine ⟨?_, kp⟩
  unfold fnV at e
  cases q : K.lookup (d.at_ K) with
  | none =>
    rw [q] at c2
    cases c2
  | some o =>
    obtain ⟨oc, od, dt, osl⟩ := o
    rw [q] at c2 e
    cases dt with
    | func fd =>
      obtain ⟨n1, n2, n3, n4, n5, n6, n7, n8, n9, n10, n11, n12, n13, n14, n15⟩ := fd
      have e2 : (some (n1, n2, n3, n4, n5, n6, n7, n8, n15) : FnV) = some (d.name, d.qual, defArgs d.st, .stmts (defBody d.st), defScope d.st, mainGlobals, [], .none, builtinsNs) := e
      simp only [Option.some.injEq, Prod.mk.injEq] at e2
      obtain ⟨h1, h2, h3, h4, h5, h6, h7, h8, h9⟩ := e2
      subst h1 h2 h3 h4 h5 h6 h7 h8 h9
      exact ⟨oc, od, n12, n9, n10, n11, n13, n14, osl, q, c2⟩
    | _ => cases c2
/-- a def's object's keyword defaults: where they stand -/
def kwAt (K : PySem.W.Frag) (f : Addr) : Option Addr := match K.lookup f with
  | some ⟨_, _, .func fd, _⟩ => (match fd.kwdefaults with
    | .ref D => some D
    | _ => none)
  | _ => none
theorem kwAt_ok {K : PySem.W.Frag} {f D : Addr} {oc : Value} {od : Option Addr} {osl : Array (Option Value)} {x q : Str} {p : Arguments} {b : List Stmt} {sc : Scope} {dV kV doc pm : Value} {an : Option Addr} {cdv ct : Value} (l : K.lookup f = some ⟨oc, od, .func (PySem.W.fnOf x q p b sc dV kV doc pm an cdv ct), osl⟩)
    (h : kwAt K f = some D) : kV = .ref D := by
  unfold kwAt at h
  rw [l] at h
  cases kV with
  | ref E =>
    have e : some E = some D := h
    rw [Option.some.inj e]
  | _ => cases h
/-! ### values of names -/
def nsV (K : PySem.W.Frag) (a : Addr) (x : Str) (v : V) : Bool := match PySem.W.nsIn K a x with
  | some (some u) => relB v u
  | _ => false
theorem nsV_ok {K : PySem.W.Frag} {a : Addr} {x : Str} {v : V} (h : nsV K a x v = true) : ∃ u, PySem.W.nsIn K a x = some (some u) ∧ RelV v u := by
  unfold nsV at h
  cases e : PySem.W.nsIn K a x with
  | none =>
    rw [e] at h
    cases h
  | some o =>
    rw [e] at h
    cases o with
    | none => cases h
    | some u => exact ⟨u, rfl, He.relB_ok h⟩
theorem nsI {K : PySem.W.Frag} {a : Addr} {x : Str} {i : Int} (h : nsV K a x (.int i) = true) : ∃ t, PySem.W.nsIn K a x = some (some (.int i t)) := by
  obtain ⟨u, e, t, rfl⟩ := nsV_ok h
  exact ⟨t, e⟩
theorem nsS {K : PySem.W.Frag} {a : Addr} {x : Str} {i : Str} (h : nsV K a x (.str i) = true) : ∃ t, PySem.W.nsIn K a x = some (some (.str i t)) := by
  obtain ⟨u, e, t, rfl⟩ := nsV_ok h
  exact ⟨t, e⟩
/-- the module's name x stands for an object -/
def refV (x : Str) (K : PySem.W.Frag) : Bool := eqO (PySem.W.nsIn K mainGlobals x) (some (some (.ref (ga K x))))
def freeV (x : Str) (K : PySem.W.Frag) : Bool := eqO (PySem.W.nsIn K mainGlobals x) (some none)
/-! ### keyword defaults of a def -/
def kwsV (K : PySem.W.Frag) (f : Addr) (l : List (Str × V)) : Bool := match kwAt K f with
  | some D => l.all fun q => nsV K D q.1 q.2
  | none => false
theorem kwsV_ok {K : PySem.W.Frag} {f : Addr} {l : List (Str × V)} (h : kwsV K f l = true) : ∃ D, kwAt K f = some D ∧ ∀ q ∈ l, nsV K D q.1 q.2 = true := by
  unfold kwsV at h
  cases e : kwAt K f with
  | none =>
    rw [e] at h
    cases h
  | some D =>
    rw [e] at h
    exact ⟨D, rfl, fun q hq => List.all_eq_true.mp h q hq⟩
/-! ### classes -/
/-- what every class of instances with a dict says -/
def clsB (K : PySem.W.Frag) (C : Addr) : Bool := PySem.W.plainGet K C Str.empty && (PySem.W.hasDictIn K C && (PySem.W.plainOver K C && eqO (PySem.W.findIn K (.ref C) "__setattr__") (some (some (.builtin "object.__setattr__")))))
theorem clsB_ok {K : PySem.W.Frag} {C : Addr} (c : clsB K C = true) : Cls K C := by
  obtain ⟨c1, c⟩ := He.ba c
  obtain ⟨c2, c⟩ := He.ba c
  obtain ⟨c3, c4⟩ := He.ba c
  exact ⟨c1, c2, c3, He.eqO_ok c4⟩
def noB (K : PySem.W.Frag) (C : Addr) (l : List Str) : Bool := l.all fun f => eqO (PySem.W.findIn K (.ref C) f) (some none)
theorem noB_ok {K : PySem.W.Frag} {C : Addr} {l : List Str} (c : noB K C l = true) : ∀ f ∈ l, PySem.W.findIn K (.ref C) f = some none := fun f hf => He.eqO_ok (List.all_eq_true.mp c f hf)
def mkB (K : PySem.W.Frag) (C : Addr) : Bool := PySem.W.makesIn K C && (eqO (PySem.W.findIn K (.ref C) "__init__") (some (some (.ref (ma K C "__init__")))) && (PySem.W.isFn K (.ref (ma K C "__init__")) && PySem.W.keepIn K (.ref C)))
theorem mkB_ok {K : PySem.W.Frag} {C : Addr} (c : mkB K C = true) : Mk K C (ma K C "__init__") := by
  obtain ⟨c1, c⟩ := He.ba c
  obtain ⟨c2, c⟩ := He.ba c
  obtain ⟨c3, c4⟩ := He.ba c
  exact ⟨c1, He.eqO_ok c2, c3, c4⟩
def methB (K : PySem.W.Frag) (C : Addr) (m : Str) : Bool := eqO (PySem.W.findIn K (.ref C) m) (some (some (.ref (ma K C m)))) && (PySem.W.isFn K (.ref (ma K C m)) && PySem.W.keepIn K (.ref (ma K C m)))
theorem methB_ok {K : PySem.W.Frag} {C : Addr} {m : Str} (c : methB K C m = true) : Meth K C m (ma K C m) := by
  obtain ⟨c1, c⟩ := He.ba c
  obtain ⟨c2, c3⟩ := He.ba c
  exact ⟨He.eqO_ok c1, c2, c3⟩
/-- a constant of a class: its value, read at the instance and at the class -/
def conV (K : PySem.W.Frag) (C : Addr) (f : Str) (v : V) : Bool := match PySem.W.findIn K (.ref C) f with
  | some (some u) => relB v u && (eqO (PySem.W.specialIn K u "__get__") (some none) && (match PySem.W.findCls K (.ref C) (.type "type") f with
    | some (.val u') => decide (u' = u)
    | _ => false))
  | _ => false
theorem conV_ok {K : PySem.W.Frag} {C : Addr} {f : Str} {v : V} (h : conV K C f v = true) : ∃ u, PySem.W.findIn K (.ref C) f = some (some u) ∧ RelV v u ∧ PySem.W.specialIn K u "__get__" = some none ∧ PySem.W.findCls K (.ref C) (.type "type") f = some (.val u) := by
  unfold conV at h
  cases e : PySem.W.findIn K (.ref C) f with
  | none =>
    rw [e] at h
    cases h
  | some o =>
    rw [e] at h
    cases o with
    | none => cases h
    | some u =>
      obtain ⟨h1, h⟩ := He.ba (show (relB v u && (eqO (PySem.W.specialIn K u "__get__") (some none) && (match PySem.W.findCls K (.ref C) (.type "type") f with
        | some (.val u') => decide (u' = u)
        | _ => false))) = true from h)
      obtain ⟨h2, h3⟩ := He.ba h
      refine ⟨u, rfl, He.relB_ok h1, He.eqO_ok h2, ?_⟩
      cases q : PySem.W.findCls K (.ref C) (.type "type") f with
      | none =>
        rw [q] at h3
        cases h3
      | some z =>
        rw [q] at h3
        cases z with
        | val u' =>
          have e : u' = u := of_decide_eq_true h3
          rw [e]
        | get _ _ _ _ => cases h3
theorem conS {K : PySem.W.Frag} {C : Addr} {f z : Str} (h : conV K C f (.str z) = true) : ∃ t, PySem.W.findIn K (.ref C) f = some (some (.str z t)) ∧ PySem.W.specialIn K (.str z t) "__get__" = some none ∧ PySem.W.findCls K (.ref C) (.type "type") f = some (.val (.str z t)) := by
  obtain ⟨u, a, ⟨t, rfl⟩, b, c⟩ := conV_ok h
  exact ⟨t, a, b, c⟩
/-- the class is read as classes are -/
def readB (K : PySem.W.Frag) (C : Addr) : Bool := PySem.W.readsIn K C (.type "type") && eqO (PySem.W.specialIn K (.ref C) "__getattribute__") (some (some (.builtin "type.__getattribute__")))
/-- __class__ is told of its instances -/
def kindB (K : PySem.W.Frag) (C : Addr) : Bool := eqO (PySem.W.findIn K (.ref C) "__class__") (some (some (.builtin "object.__class__"))) && (decide (PySem.W.mroIn K C (.type "object") = some true) && (eqO (PySem.W.specialIn K (.builtin "object.__class__") "__get__") (some (some (.builtin "getset_descriptor.__get__"))) && decide (PySem.W.takesIn K (.builtin "object.__class__") = some true)))
theorem kindB_ok {K : PySem.W.Frag} {C : Addr} (c : kindB K C = true) : PySem.W.findIn K (.ref C) "__class__" = some (some (.builtin "object.__class__")) ∧ PySem.W.mroIn K C (.type "object") = some true ∧ PySem.W.specialIn K (.builtin "object.__class__") "__get__" = some (some (.builtin "getset_descriptor.__get__")) ∧ PySem.W.takesIn K (.builtin "object.__class__") = some true := by
  obtain ⟨c1, c⟩ := He.ba c
  obtain ⟨c2, c⟩ := He.ba c
  obtain ⟨c3, c4⟩ := He.ba c
  exact ⟨He.eqO_ok c1, of_decide_eq_true c2, He.eqO_ok c3, of_decide_eq_true c4⟩
def kitB (K : PySem.W.Frag) (a b : Addr) (r : Bool) : Bool := decide (PySem.W.kitOne K (.ref a) (.ref b) = some r)
theorem kitB_ok {K : PySem.W.Frag} {a b : Addr} {r : Bool} (c : kitB K a b r = true) : PySem.W.kitOne K (.ref a) (.ref b) = some r := of_decide_eq_true c
/-! ### the Hook -/
abbrev AlX : Type := (Bool × List FnV) × List (Option (List (Option (Str × Int))))
def chk (fa : List (PySem.W.Frag → Bool)) (fn : List FnP) (K : PySem.W.Frag) : Bool := (fa.all fun f => f K) && fn.all fun d => d.ok K
def obsX (fa : List (PySem.W.Frag → Bool)) (fn : List FnP) (ts : List He.Tab) (K : PySem.W.Frag) : AlX := ((chk fa fn K, fn.map fun d => fnV K (d.at_ K)), ts.map fun t => He.dicW K (t.1 K))
def valX (fn : List FnP) (ts : List He.Tab) (w : World) : AlX := ((true, fn.map FnP.val), ts.map fun t => some (He.keysIn w.params t.2))
def SaysX (fa : List (PySem.W.Frag → Bool)) (fn : List FnP) (ts : List He.Tab) (w : World) (K : PySem.W.Frag) : Prop := obsX fa fn ts K = valX fn ts w
def hookX (fa : List (PySem.W.Frag → Bool)) (fn : List FnP) (ts : List He.Tab) : PySem.W.Hook where
  α := AlX
  obs := fun s => obsX fa fn ts (allU s.heap.get? s.heap.objs.size 0 [])
  val := fun w => valX fn ts w
  says := fun w h => ∃ K : PySem.W.Frag, K.In h ∧ SaysX fa fn ts w K
  of := fun _ _ e => ⟨_, allU_in, e⟩
  keeps := fun _ _ _ ⟨K, hK, c⟩ k => ⟨K, PySem.W.Frag.In.keeps hK k, c⟩
/-- what is looked at, off the tree -/
def obX (fa : List (PySem.W.Frag → Bool)) (fn : List FnP) (ts : List He.Tab) (s : PySem.W.SharedT) : AlX := frU (HandSHeadRun.getT s) s.n 0 [] (obsX fa fn ts)
theorem obX_eq {fa : List (PySem.W.Frag → Bool)} {fn : List FnP} {ts : List He.Tab} (s : PySem.W.SharedT) : obX fa fn ts s = (hookX fa fn ts).obs s.abs := by
  unfold obX
  rw [frU_eq]
  have e : HandSHeadRun.getT s = s.abs.heap.get? := funext (HandSHeadRun.getT_eq s)
  have n : s.abs.heap.objs.size = s.n := PySem.W.absHeap_size s.tree s.n s.life
  show obsX fa fn ts (allU (HandSHeadRun.getT s) s.n 0 []) = obsX fa fn ts (allU s.abs.heap.get? s.abs.heap.objs.size 0 [])
  rw [e, n]
section
variable {fa : List (PySem.W.Frag → Bool)} {fn : List FnP} {ts : List He.Tab} {w : World} {K : PySem.W.Frag}
theorem SaysX.chk_ (c : SaysX fa fn ts w K) : chk fa fn K = true := congrArg (fun z : AlX => z.1.1) c
theorem SaysX.fact (c : SaysX fa fn ts w K) (i : Nat) {f : PySem.W.Frag → Bool} (h : fa[i]? = some f := by rfl) : f K = true := List.all_eq_true.mp (He.ba c.chk_).1 f (List.mem_of_getElem? h)
theorem SaysX.def_ (c : SaysX fa fn ts w K) (i : Nat) {d : FnP} (h : fn[i]? = some d := by rfl) : FnAt K d.name d.qual d.st (d.at_ K) ∧ PySem.W.keepIn K (.ref (d.at_ K)) = true := by
  have e : fn.map (fun d => fnV K (d.at_ K)) = fn.map FnP.val := congrArg (fun z : AlX => z.1.2) c
  have e2 : (fn.map fun d => fnV K (d.at_ K))[i]? = (fn.map FnP.val)[i]? := by rw [e]
  rw [List.getElem?_map, List.getElem?_map, h] at e2
  exact fn_ok (Option.some.inj e2) (List.all_eq_true.mp (He.ba c.chk_).2 d (List.mem_of_getElem? h))
end
/-! ### the facts in chunks, each looked at by a run of its own -/
structure Ck where
  fa : List (PySem.W.Frag → Bool)
  fn : List FnP
  ts : List He.Tab
def Ck.ob (c : Ck) (s : PySem.W.SharedT) : AlX := obX c.fa c.fn c.ts s
def Ck.Says (c : Ck) (w : World) (K : PySem.W.Frag) : Prop := SaysX c.fa c.fn c.ts w K
def hookC (cs : List Ck) : PySem.W.Hook where
  α := List AlX
  obs := fun s => cs.map fun c => obsX c.fa c.fn c.ts (allU s.heap.get? s.heap.objs.size 0 [])
  val := fun w => cs.map fun c => valX c.fn c.ts w
  says := fun w h => ∃ K : PySem.W.Frag, K.In h ∧ ∀ c ∈ cs, c.Says w K
  of := fun _ _ e => ⟨_, allU_in, List.map_inj_left.mp e⟩
  keeps := fun _ _ _ ⟨K, hK, c⟩ k => ⟨K, PySem.W.Frag.In.keeps hK k, c⟩
def obCs (cs : List Ck) (s : PySem.W.SharedT) : List AlX := cs.map fun c => c.ob s
theorem obCs_eq {cs : List Ck} (s : PySem.W.SharedT) : obCs cs s = (hookC cs).obs s.abs := List.map_congr_left fun c _ => obX_eq s
theorem map_split {σ α β γ δ : Type} {o : Option σ} {a : σ → α} {b : σ → β} {g : δ → σ → γ} {v : δ → γ} {va : α} {vb : β} {cs : List δ} (e0 : o.map (fun s => (a s, b s)) = some (va, vb)) (es : ∀ c ∈ cs, o.map (g c) = some (v c)) :
    o.map (fun s => (a s, b s, cs.map fun c => g c s)) = some (va, vb, cs.map v) := by
  cases o with
  | none => cases e0
  | some s =>
    obtain ⟨h1, h2⟩ := Prod.mk.inj (Option.some.inj e0)
    show some (a s, b s, cs.map fun c => g c s) = _
    rw [h1, h2, List.map_congr_left fun c hc => Option.some.inj (es c hc)]
open HandSHeadRun PySem.W PySem.Calls PyProof.Rows in
/-- the run's first equation: the looks, the view -/
def Run0 (r : PySem.W.OpenRow) (q : Program) (M : Nat) (loose : List PySem.Str) (w : World) : Prop :=
  ∀ os : OsState, (endF (stepQ (denQ tabQ) r.prog w) M r.prog w os).map (fun s => (looksF r.prog (boot_heap w.params) s.abs, seenQ q loose (importedModules r.prog.main.body) (fun s => PySem.W.xlAt q [] s && PySem.W.recOk r.toRowW.records s) s.abs)) = some (true, PySem.W.openGood q loose)
open HandSHeadRun PySem.W PySem.Calls PyProof.Rows in
def RunC (r : PySem.W.OpenRow) (M : Nat) (c : Ck) (w : World) : Prop := ∀ os : OsState, (endF (stepQ (denQ tabQ) r.prog w) M r.prog w os).map c.ob = some (valX c.fn c.ts w)
theorem run_of {r : PySem.W.OpenRow} {q : Program} {M : Nat} {loose : List PySem.Str} {cs : List Ck} {w : World} (e0 : Run0 r q M loose w) (es : ∀ c ∈ cs, RunC r M c w) : HandSHeadRun.RunEq r q (hookC cs) (obCs cs) M loose w :=
  fun os => map_split (δ := Ck) (g := fun c s => c.ob s) (v := fun c => valX c.fn c.ts w) (cs := cs) (e0 os) fun c hc => es c hc os
end Hk
/-! more facts by Bools: tuples that the top has written, values of a dict that stand for objects, == and != of a class -/
namespace Hk
open PySem PySem.Spec PyProof.Rows L2
open He (ga ma eqO relB FnV)
def relL : List V → List Value → Bool
  | [], [] => true
  | v :: vs, u :: us => relB v u && relL vs us
  | _, _ => false
theorem relL_ok : ∀ {vs : List V} {us : List Value}, relL vs us = true → Vals vs us
  | [], [], _ => .nil
  | v :: vs, u :: us, h => by
    obtain ⟨h1, h2⟩ := He.ba (show (relB v u && relL vs us) = true from h)
    exact .cons (He.relB_ok h1) (relL_ok h2)
  | [], u :: us, h => by cases h
  | v :: vs, [], h => by cases h
def tupB (K : PySem.W.Frag) (a : Addr) (vs : List V) : Bool := match K.lookup a with
  | some ⟨.type c, _, .seq its _, _⟩ => decide (c = "tuple") && (decide (its.size ≤ 100) && relL vs its.toList)
  | _ => false
theorem tupB_ok {K : PySem.W.Frag} {a : Addr} {vs : List V} (h : tupB K a vs = true) (H : Hp) : SqT K H a vs := by
  unfold tupB at h
  cases e : K.lookup a with
  | none =>
    rw [e] at h
    cases h
  | some o =>
    obtain ⟨oc, od, dt, osl⟩ := o
    rw [e] at h
    cases oc with
    | type c =>
      cases dt with
      | seq its n =>
        obtain ⟨h1, h2⟩ := He.ba (show (decide (c = "tuple") && (decide (its.size ≤ 100) && relL vs its.toList)) = true from h)
        obtain ⟨h2, h3⟩ := He.ba h2
        have hc : c = "tuple" := of_decide_eq_true h1
        subst hc
        exact .inr ⟨_, its, n, e, rfl, rfl, Nat.le_trans (of_decide_eq_true h2) (by decide), relL_ok h3⟩
      | _ => cases h
    | _ => cases h
/-- where the value at a name of a dict stands -/
def na (K : PySem.W.Frag) (D : Addr) (x : Str) : Addr := match PySem.W.nsIn K D x with
  | some (some (.ref a)) => a
  | _ => 0
/-- the class's own ==, object's != -/
def eqB (K : PySem.W.Frag) (C : Addr) : Bool := methB K C "__eq__" && (eqO (PySem.W.findIn K (.ref C) "__ne__") (some (some (.builtin "object.__ne__"))) && decide (PySem.W.subIn K (.ref C) (.type "object") = some true))
theorem eqB_ok {K : PySem.W.Frag} {C : Addr} (h : eqB K C = true) : Meth K C "__eq__" (ma K C "__eq__") ∧ PySem.W.findIn K (.ref C) "__ne__" = some (some (.builtin "object.__ne__")) ∧ PySem.W.subIn K (.ref C) (.type "object") = some true := by
  obtain ⟨h1, h2⟩ := He.ba h
  obtain ⟨h2, h3⟩ := He.ba h2
  exact ⟨methB_ok h1, He.eqO_ok h2, of_decide_eq_true h3⟩
end Hk
namespace Hk
open PySem PySem.Spec PyProof.Rows L2 He
/-- a class method: where its function stands -/
def cgetAt (K : PySem.W.Frag) (p : Addr) : Addr := match PySem.W.recIn K p "classmethod" with
  | some (.ref g :: _) => g
  | _ => 0
def cmetB (K : PySem.W.Frag) (C : Addr) (m : Str) : Bool := (match PySem.W.findCls K (.ref C) (.type "type") m with
  | some (.get (.builtin b) (.ref p) .none (.ref c)) => decide (b = "classmethod.__get__") && (decide (p = ma K C m) && decide (c = C))
  | _ => false) && ((match PySem.W.recIn K (ma K C m) "classmethod" with
  | some (.ref g :: _) => decide (g = cgetAt K (ma K C m))
  | _ => false) && PySem.W.fnIn K (cgetAt K (ma K C m)))
theorem cmetB_ok {K : PySem.W.Frag} {C : Addr} {m : Str} (c : cmetB K C m = true) : ClX.CMet K C (.type "type") m (ma K C m) (cgetAt K (ma K C m)) := by
  obtain ⟨c1, c⟩ := He.ba c
  obtain ⟨c2, c3⟩ := He.ba c
  refine ⟨?_, ?_, c3⟩
  · revert c1
    split
    · rename_i b p c e
      intro c1
      obtain ⟨d1, d⟩ := He.ba c1
      obtain ⟨d2, d3⟩ := He.ba d
      rw [e, of_decide_eq_true d1, of_decide_eq_true d2, of_decide_eq_true d3]
    · intro c1
      cases c1
  · revert c2
    split
    · rename_i g r e
      intro c2
      exact ⟨r, by rw [e, of_decide_eq_true c2]⟩
    · intro c2
      cases c2
end Hk
namespace Hd
open PySem PySem.Spec PyProof.Rows L2
abbrev R : PySem.W.OpenRow := PySem.W.OpenLaw.row PySem.Challenge.rw_tarhouse_k32_houses_compared
abbrev qv : Program := PySem.W.view R.prog [87]
def tS (i : Nat) : Stmt := PySem.Challenge.pw_tarhouse_k32_houses_compared.main.body.getD i (.Pass ⟨0, 0, 0, 0⟩)
def names0 : List PySem.Str := ["_wall", "copied", "NoBlob", "NoData", "NoHouse", "NoName", "NoMode", "NoSize", "NoPieces", "NoTime", "Refused", "is_integer", "is_integer_within", "NAME_CHARACTERS", "MOST_CHARACTERS"]
def names1 : List PySem.Str := ["NO_PARTS", "MOST_BYTES", "MOST_PIECES", "LAST_MODE", "LAST_TIME", "is_name", "is_path", "is_data", "is_size", "is_mode", "is_time", "are_pieces", "is_piece", "are_spans", "check_name"]
def names2 : List PySem.Str := ["check_data", "check_pieces", "check_mode_and_time", "Member", "File", "Sparse", "Directory", "Symlink", "Link", "target_of", "paths_above", "directory_of", "House", "filled", "are_entries"]
def names3 : List PySem.Str := ["is_entry", "is_thing", "stands_right", "kind_at", "blob", "is_row_of_bytes", "MADE", "Tree", "thing_of", "unpacked", "unpack", "refusal", "_law_source", "_law_draw", "_law_path"]
def names4 : List PySem.Str := ["_law_numbers", "_law_stamps", "_law_pieces", "_law_spec", "_law_specs", "_law_tree", "_law_copied", "_law_above", "_law_kind", "_law_is_path", "_law_word", "_law_content", "_law_stepped", "_law_entries", "_law_tree_of"]
def names5 : List PySem.Str := ["_law_near", "_law_house"]
def names : List PySem.Str := names0 ++ (names1 ++ (names2 ++ (names3 ++ (names4 ++ (names5)))))
abbrev fn_0 : Hk.FnP := ⟨fun K => (He.ga K "law"), "law", "law", tS 87⟩
abbrev fn_1 : Hk.FnP := ⟨fun K => (He.ga K "is_integer"), "is_integer", "is_integer", tS 14⟩
abbrev fn_2 : Hk.FnP := ⟨fun K => (He.ga K "is_integer_within"), "is_integer_within", "is_integer_within", tS 15⟩
abbrev fn_3 : Hk.FnP := ⟨fun K => (He.ga K "is_row_of_bytes"), "is_row_of_bytes", "is_row_of_bytes", tS 57⟩
abbrev fn_4 : Hk.FnP := ⟨fun K => (He.ga K "blob"), "blob", "blob", tS 56⟩
abbrev fn_5 : Hk.FnP := ⟨fun K => (He.ga K "is_name"), "is_name", "is_name", tS 24⟩
abbrev fn_6 : Hk.FnP := ⟨fun K => (He.ga K "_law_source"), "_law_source", "_law_source", tS 67⟩
abbrev fn_7 : Hk.FnP := ⟨fun K => (He.ga K "_law_draw"), "_law_draw", "_law_draw", tS 68⟩
abbrev fn_8 : Hk.FnP := ⟨fun K => (He.ga K "_law_stamps"), "_law_stamps", "_law_stamps", tS 71⟩
abbrev fn_9 : Hk.FnP := ⟨fun K => (He.ga K "_law_numbers"), "_law_numbers", "_law_numbers", tS 70⟩
abbrev fn_10 : Hk.FnP := ⟨fun K => (He.ga K "check_name"), "check_name", "check_name", tS 33⟩
abbrev fn_11 : Hk.FnP := ⟨fun K => (He.ga K "is_data"), "is_data", "is_data", tS 26⟩
abbrev fn_12 : Hk.FnP := ⟨fun K => (He.ga K "check_data"), "check_data", "check_data", tS 34⟩
abbrev fn_13 : Hk.FnP := ⟨fun K => (He.ga K "is_size"), "is_size", "is_size", tS 27⟩
abbrev fn_14 : Hk.FnP := ⟨fun K => (He.ga K "is_mode"), "is_mode", "is_mode", tS 28⟩
abbrev fn_15 : Hk.FnP := ⟨fun K => (He.ga K "is_time"), "is_time", "is_time", tS 29⟩
abbrev fn_16 : Hk.FnP := ⟨fun K => (He.ga K "check_mode_and_time"), "check_mode_and_time", "check_mode_and_time", tS 36⟩
abbrev fn_17 : Hk.FnP := ⟨fun K => (He.ga K "is_piece"), "is_piece", "is_piece", tS 31⟩
abbrev fn_18 : Hk.FnP := ⟨fun K => (He.ga K "are_spans"), "are_spans", "are_spans", tS 32⟩
abbrev fn_19 : Hk.FnP := ⟨fun K => (He.ga K "are_pieces"), "are_pieces", "are_pieces", tS 30⟩
abbrev fn_20 : Hk.FnP := ⟨fun K => (He.ga K "check_pieces"), "check_pieces", "check_pieces", tS 35⟩
abbrev fn_21 : Hk.FnP := ⟨fun K => (He.ga K "target_of"), "target_of", "target_of", tS 43⟩
abbrev fn_22 : Hk.FnP := ⟨fun K => (He.ga K "paths_above"), "paths_above", "paths_above", tS 45⟩
abbrev fn_23 : Hk.FnP := ⟨fun K => (He.ga K "directory_of"), "directory_of", "directory_of", tS 46⟩
abbrev fn_24 : Hk.FnP := ⟨fun K => (He.ga K "is_path"), "is_path", "is_path", tS 25⟩
abbrev fn_25 : Hk.FnP := ⟨fun K => (He.ga K "kind_at"), "kind_at", "kind_at", tS 54⟩
abbrev fn_26 : Hk.FnP := ⟨fun K => (He.ga K "is_thing"), "is_thing", "is_thing", tS 52⟩
abbrev fn_27 : Hk.FnP := ⟨fun K => (He.ga K "is_entry"), "is_entry", "is_entry", tS 51⟩
abbrev fn_28 : Hk.FnP := ⟨fun K => (He.ga K "stands_right"), "stands_right", "stands_right", tS 53⟩
abbrev fn_29 : Hk.FnP := ⟨fun K => (He.ga K "are_entries"), "are_entries", "are_entries", tS 50⟩
abbrev fn_30 : Hk.FnP := ⟨fun K => (He.ga K "filled"), "filled", "filled", tS 49⟩
abbrev fn_31 : Hk.FnP := ⟨fun K => (He.ga K "thing_of"), "thing_of", "thing_of", tS 61⟩
abbrev fn_32 : Hk.FnP := ⟨fun K => (He.ga K "refusal"), "refusal", "refusal", tS 65⟩
abbrev fn_33 : Hk.FnP := ⟨fun K => (He.ga K "unpack"), "unpack", "unpack", tS 64⟩
abbrev fn_34 : Hk.FnP := ⟨fun K => (He.ga K "unpacked"), "unpacked", "unpacked", tS 63⟩
abbrev fn_35 : Hk.FnP := ⟨fun K => (He.ga K "_law_path"), "_law_path", "_law_path", tS 69⟩
abbrev fn_36 : Hk.FnP := ⟨fun K => (He.ga K "_law_pieces"), "_law_pieces", "_law_pieces", tS 72⟩
abbrev fn_37 : Hk.FnP := ⟨fun K => (He.ga K "_law_spec"), "_law_spec", "_law_spec", tS 73⟩
abbrev fn_38 : Hk.FnP := ⟨fun K => (He.ga K "_law_specs"), "_law_specs", "_law_specs", tS 74⟩
abbrev fn_39 : Hk.FnP := ⟨fun K => (He.ga K "_law_above"), "_law_above", "_law_above", tS 77⟩
abbrev fn_40 : Hk.FnP := ⟨fun K => (He.ga K "_law_is_path"), "_law_is_path", "_law_is_path", tS 79⟩
abbrev fn_41 : Hk.FnP := ⟨fun K => (He.ga K "_law_tree"), "_law_tree", "_law_tree", tS 75⟩
abbrev fn_42 : Hk.FnP := ⟨fun K => (He.ga K "_law_copied"), "_law_copied", "_law_copied", tS 76⟩
abbrev fn_43 : Hk.FnP := ⟨fun K => (He.ga K "_law_kind"), "_law_kind", "_law_kind", tS 78⟩
abbrev fn_44 : Hk.FnP := ⟨fun K => (He.ga K "_law_word"), "_law_word", "_law_word", tS 80⟩
abbrev fn_45 : Hk.FnP := ⟨fun K => (He.ga K "_law_content"), "_law_content", "_law_content", tS 81⟩
abbrev fn_46 : Hk.FnP := ⟨fun K => (He.ga K "_law_stepped"), "_law_stepped", "_law_stepped", tS 82⟩
abbrev fn_47 : Hk.FnP := ⟨fun K => (He.ga K "_law_tree_of"), "_law_tree_of", "_law_tree_of", tS 84⟩
abbrev fn_48 : Hk.FnP := ⟨fun K => (He.ga K "_law_entries"), "_law_entries", "_law_entries", tS 83⟩
abbrev fn_49 : Hk.FnP := ⟨fun K => (He.ga K "_law_near"), "_law_near", "_law_near", tS 85⟩
abbrev fn_50 : Hk.FnP := ⟨fun K => (He.ga K "_law_house"), "_law_house", "_law_house", tS 86⟩
abbrev fn_51 : Hk.FnP := ⟨fun K => (He.ma K (He.ga K "File") "__init__"), "__init__", "File.__init__", (inClass (tS 38) 1)⟩
abbrev fn_52 : Hk.FnP := ⟨fun K => (He.ma K (He.ga K "Sparse") "__init__"), "__init__", "Sparse.__init__", (inClass (tS 39) 1)⟩
abbrev fn_53 : Hk.FnP := ⟨fun K => (He.ma K (He.ga K "Directory") "__init__"), "__init__", "Directory.__init__", (inClass (tS 40) 1)⟩
abbrev fn_54 : Hk.FnP := ⟨fun K => (He.ma K (He.ga K "Symlink") "__init__"), "__init__", "Symlink.__init__", (inClass (tS 41) 1)⟩
abbrev fn_55 : Hk.FnP := ⟨fun K => (He.ma K (He.ga K "Link") "__init__"), "__init__", "Link.__init__", (inClass (tS 42) 1)⟩
abbrev fn_56 : Hk.FnP := ⟨fun K => (He.ma K (He.ga K "House") "__init__"), "__init__", "House.__init__", (inClass (tS 48) 0)⟩
abbrev fn_57 : Hk.FnP := ⟨fun K => (He.ma K (He.ga K "Tree") "__init__"), "__init__", "Tree.__init__", (inClass (tS 60) 0)⟩
abbrev fn_58 : Hk.FnP := ⟨fun K => (He.ma K (He.ga K "House") "__len__"), "__len__", "House.__len__", (inClass (tS 48) 2)⟩
abbrev fn_59 : Hk.FnP := ⟨fun K => (He.ma K (He.ga K "House") "entries"), "entries", "House.entries", (inClass (tS 48) 4)⟩
abbrev fn_60 : Hk.FnP := ⟨fun K => (Hk.cgetAt K (He.ma K (He.ga K "House") "of")), "of", "House.of", (inClass (tS 48) 3)⟩
abbrev fn_61 : Hk.FnP := ⟨fun K => (He.ma K (He.ga K "File") "content"), "content", "File.content", (inClass (tS 38) 4)⟩
abbrev fn_62 : Hk.FnP := ⟨fun K => (He.ma K (He.ga K "Sparse") "content"), "content", "Sparse.content", (inClass (tS 39) 4)⟩
abbrev fn_63 : Hk.FnP := ⟨fun K => (He.ma K (He.ga K "Tree") "house"), "house", "Tree.house", (inClass (tS 60) 1)⟩
abbrev fn_64 : Hk.FnP := ⟨fun K => (He.ma K (He.ga K "Tree") "refusal_at"), "refusal_at", "Tree.refusal_at", (inClass (tS 60) 2)⟩
abbrev fn_65 : Hk.FnP := ⟨fun K => (He.ma K (He.ga K "Tree") "put"), "put", "Tree.put", (inClass (tS 60) 3)⟩
abbrev fn_66 : Hk.FnP := ⟨fun K => (He.ma K (He.ga K "House") "__eq__"), "__eq__", "House.__eq__", (inClass (tS 48) 1)⟩
def fa0_0 : List (PySem.W.Frag → Bool) := [Hk.refV "law", Hk.refV "is_integer", Hk.refV "is_integer_within", Hk.refV "is_row_of_bytes", Hk.refV "blob", Hk.refV "is_name", Hk.refV "_law_source", Hk.refV "_law_draw", Hk.refV "_law_stamps", Hk.refV "_law_numbers"]
def fa0_1 : List (PySem.W.Frag → Bool) := [Hk.refV "check_name", Hk.refV "is_data", Hk.refV "check_data", Hk.refV "is_size", Hk.refV "is_mode", Hk.refV "is_time", Hk.refV "check_mode_and_time", Hk.refV "is_piece", Hk.refV "are_spans", Hk.refV "are_pieces"]
def fa0_2 : List (PySem.W.Frag → Bool) := [Hk.refV "check_pieces", Hk.refV "target_of", Hk.refV "paths_above", Hk.refV "directory_of", Hk.refV "is_path", Hk.refV "kind_at", Hk.refV "is_thing", Hk.refV "is_entry", Hk.refV "stands_right", Hk.refV "are_entries"]
def fa0_3 : List (PySem.W.Frag → Bool) := [Hk.refV "filled", Hk.refV "thing_of", Hk.refV "refusal", Hk.refV "unpack", Hk.refV "unpacked", Hk.refV "_law_path", Hk.refV "_law_pieces", Hk.refV "_law_spec", Hk.refV "_law_specs", Hk.refV "_law_above"]
def fa0_4 : List (PySem.W.Frag → Bool) := [Hk.refV "_law_is_path", Hk.refV "_law_tree", Hk.refV "_law_copied", Hk.refV "_law_kind", Hk.refV "_law_word", Hk.refV "_law_content", Hk.refV "_law_stepped", Hk.refV "_law_tree_of", Hk.refV "_law_entries", Hk.refV "_law_near"]
def fa0_5 : List (PySem.W.Frag → Bool) := [Hk.refV "_law_house", fun K => Hk.nsV K mainGlobals "MOST_CHARACTERS" (.int (250)), fun K => Hk.nsV K mainGlobals "NAME_CHARACTERS" (.str ("abcdefghijklmnopqrstuvwxyz0123456789._-/")), fun K => Hk.nsV K mainGlobals "MOST_BYTES" (.int (4096)), fun K => Hk.nsV K mainGlobals "LAST_MODE" (.int (4095)), fun K => Hk.nsV K mainGlobals "LAST_TIME" (.int (8589934591)), fun K => Hk.nsV K mainGlobals "MOST_PIECES" (.int (50)), Hk.refV "NO_PARTS", Hk.refV "MADE", Hk.refV "Member"]
def fa0_6 : List (PySem.W.Frag → Bool) := [fun K => Hk.conV K (He.ga K "File") "KIND" (.str "file"), Hk.refV "File", fun K => Hk.clsB K (He.ga K "File"), fun K => Hk.mkB K (He.ga K "File"), fun K => Hk.kindB K (He.ga K "File"), fun K => Hk.kitB K (He.ga K "File") (He.ga K "Member") true, fun K => Hk.readB K (He.ga K "File"), fun K => Hk.noB K (He.ga K "File") ["name", "mode", "time", "data"]]
def fa0_ : List (PySem.W.Frag → Bool) := fa0_0 ++ (fa0_1 ++ (fa0_2 ++ (fa0_3 ++ (fa0_4 ++ (fa0_5 ++ (fa0_6))))))
def fa1_0 : List (PySem.W.Frag → Bool) := [fun K => Hk.kwsV K (He.ma K (He.ga K "File") "__init__") [("mode", .int 420), ("time", .int 0)], fun K => Hk.conV K (He.ga K "Sparse") "KIND" (.str "sparse"), Hk.refV "Sparse", fun K => Hk.clsB K (He.ga K "Sparse"), fun K => Hk.mkB K (He.ga K "Sparse"), fun K => Hk.kindB K (He.ga K "Sparse"), fun K => Hk.kitB K (He.ga K "Sparse") (He.ga K "Member") true, fun K => Hk.readB K (He.ga K "Sparse"), fun K => Hk.noB K (He.ga K "Sparse") ["name", "mode", "time", "size", "pieces"], fun K => Hk.kwsV K (He.ma K (He.ga K "Sparse") "__init__") [("mode", .int 420), ("time", .int 0)]]
def fa1_1 : List (PySem.W.Frag → Bool) := [fun K => Hk.conV K (He.ga K "Directory") "KIND" (.str "directory"), Hk.refV "Directory", fun K => Hk.clsB K (He.ga K "Directory"), fun K => Hk.mkB K (He.ga K "Directory"), fun K => Hk.kindB K (He.ga K "Directory"), fun K => Hk.kitB K (He.ga K "Directory") (He.ga K "Member") true, fun K => Hk.readB K (He.ga K "Directory"), fun K => Hk.noB K (He.ga K "Directory") ["name", "mode", "time"], fun K => Hk.kwsV K (He.ma K (He.ga K "Directory") "__init__") [("mode", .int 493), ("time", .int 0)], fun K => Hk.conV K (He.ga K "Symlink") "KIND" (.str "symlink")]
def fa1_2 : List (PySem.W.Frag → Bool) := [Hk.refV "Symlink", fun K => Hk.clsB K (He.ga K "Symlink"), fun K => Hk.mkB K (He.ga K "Symlink"), fun K => Hk.kindB K (He.ga K "Symlink"), fun K => Hk.kitB K (He.ga K "Symlink") (He.ga K "Member") true, fun K => Hk.readB K (He.ga K "Symlink"), fun K => Hk.noB K (He.ga K "Symlink") ["name", "mode", "time", "target"], fun K => Hk.kwsV K (He.ma K (He.ga K "Symlink") "__init__") [("mode", .int 511), ("time", .int 0)], fun K => Hk.conV K (He.ga K "Link") "KIND" (.str "link"), Hk.refV "Link"]
def fa1_3 : List (PySem.W.Frag → Bool) := [fun K => Hk.clsB K (He.ga K "Link"), fun K => Hk.mkB K (He.ga K "Link"), fun K => Hk.kindB K (He.ga K "Link"), fun K => Hk.kitB K (He.ga K "Link") (He.ga K "Member") true, fun K => Hk.readB K (He.ga K "Link"), fun K => Hk.noB K (He.ga K "Link") ["name", "mode", "time", "target"], fun K => Hk.kwsV K (He.ma K (He.ga K "Link") "__init__") [("mode", .int 420), ("time", .int 0)], fun K => Hk.kitB K (He.ga K "File") (He.ga K "File") true, fun K => Hk.kitB K (He.ga K "File") (He.ga K "Sparse") false, fun K => Hk.kitB K (He.ga K "File") (He.ga K "Symlink") false]
def fa1_4 : List (PySem.W.Frag → Bool) := [fun K => Hk.kitB K (He.ga K "File") (He.ga K "Link") false, fun K => Hk.kitB K (He.ga K "Sparse") (He.ga K "File") false, fun K => Hk.kitB K (He.ga K "Sparse") (He.ga K "Sparse") true, fun K => Hk.kitB K (He.ga K "Sparse") (He.ga K "Symlink") false, fun K => Hk.kitB K (He.ga K "Sparse") (He.ga K "Link") false, fun K => Hk.kitB K (He.ga K "Directory") (He.ga K "File") false, fun K => Hk.kitB K (He.ga K "Directory") (He.ga K "Sparse") false, fun K => Hk.kitB K (He.ga K "Directory") (He.ga K "Symlink") false, fun K => Hk.kitB K (He.ga K "Directory") (He.ga K "Link") false, fun K => Hk.kitB K (He.ga K "Symlink") (He.ga K "File") false]
def fa1_5 : List (PySem.W.Frag → Bool) := [fun K => Hk.kitB K (He.ga K "Symlink") (He.ga K "Sparse") false, fun K => Hk.kitB K (He.ga K "Symlink") (He.ga K "Symlink") true, fun K => Hk.kitB K (He.ga K "Link") (He.ga K "File") false, fun K => Hk.kitB K (He.ga K "Link") (He.ga K "Sparse") false, fun K => Hk.kitB K (He.ga K "Link") (He.ga K "Symlink") false, fun K => Hk.kitB K (He.ga K "Link") (He.ga K "Link") true, fun K => Hk.tupB K (He.ga K "NO_PARTS") [.str "", .str ".", .str ".."], fun K => Hk.tupB K (He.ga K "MADE") [.str "directory", .int 493, .int 0], fun K => Hk.kitB K (He.ga K "Directory") (He.ga K "Directory") true, fun K => Hk.kitB K (He.ga K "File") (He.ga K "Directory") false]
def fa1_6 : List (PySem.W.Frag → Bool) := [fun K => Hk.kitB K (He.ga K "Sparse") (He.ga K "Directory") false, fun K => Hk.kitB K (He.ga K "Symlink") (He.ga K "Directory") false, fun K => Hk.kitB K (He.ga K "Link") (He.ga K "Directory") false, fun K => Hk.kitB K (He.ga K "Symlink") (He.ga K "Link") false, Hk.refV "House", fun K => Hk.clsB K (He.ga K "House"), fun K => Hk.mkB K (He.ga K "House"), fun K => Hk.noB K (He.ga K "House") ["rows", "things", "firsts"]]
def fa1_ : List (PySem.W.Frag → Bool) := fa1_0 ++ (fa1_1 ++ (fa1_2 ++ (fa1_3 ++ (fa1_4 ++ (fa1_5 ++ (fa1_6))))))
def fa2_0 : List (PySem.W.Frag → Bool) := [fun K => Hk.methB K (He.ga K "House") "__init__", Hk.refV "Tree", fun K => Hk.clsB K (He.ga K "Tree"), fun K => Hk.mkB K (He.ga K "Tree"), fun K => Hk.noB K (He.ga K "Tree") ["things", "marks", "many"], fun K => Hk.methB K (He.ga K "Tree") "__init__", fun K => Hk.methB K (He.ga K "House") "__len__", fun K => Hk.methB K (He.ga K "House") "entries", fun K => Hk.readB K (He.ga K "House"), fun K => Hk.cmetB K (He.ga K "House") "of"]
def fa2_1 : List (PySem.W.Frag → Bool) := [fun K => Hk.methB K (He.ga K "File") "content", fun K => Hk.methB K (He.ga K "Sparse") "content", fun K => Hk.methB K (He.ga K "Tree") "house", fun K => Hk.methB K (He.ga K "Tree") "refusal_at", fun K => Hk.methB K (He.ga K "Tree") "put", fun K => Hk.kindB K (He.ga K "House"), fun K => PySem.W.notFirst K (He.ga K "House") (.type "NoneType"), fun K => decide (PySem.W.kitOne K (.type "NoneType") (.ref (He.ga K "House")) = some false), fun K => PySem.W.notFirst K (He.ga K "House") (.type "list"), fun K => decide (PySem.W.kitOne K (.type "list") (.ref (He.ga K "House")) = some false)]
def fa2_2 : List (PySem.W.Frag → Bool) := [fun K => PySem.W.notFirst K (He.ga K "House") (.type "int"), fun K => decide (PySem.W.kitOne K (.type "int") (.ref (He.ga K "House")) = some false), fun K => PySem.W.notFirst K (He.ga K "House") (.type "str"), fun K => decide (PySem.W.kitOne K (.type "str") (.ref (He.ga K "House")) = some false), fun K => Hk.methB K (He.ga K "House") "__eq__", fun K => Hk.eqB K (He.ga K "House"), fun K => ((["isinstance", "bool", "int", "list", "tuple", "all", "bytes", "str", "len", "abs", "range", "any", "sorted", "enumerate", "dict", "max", "min"] : List Str).all fun b => Hk.freeV b K)]
def fa2_ : List (PySem.W.Frag → Bool) := fa2_0 ++ (fa2_1 ++ (fa2_2))
def fn0_0 : List Hk.FnP := [fn_0, fn_1, fn_2, fn_3, fn_4, fn_5, fn_6, fn_7, fn_8, fn_9, fn_10, fn_11, fn_12, fn_13, fn_14]
def fn0_1 : List Hk.FnP := [fn_15, fn_16, fn_17, fn_18, fn_19, fn_20, fn_21, fn_22, fn_23, fn_24]
def fn0_ : List Hk.FnP := fn0_0 ++ (fn0_1)
def fn1_0 : List Hk.FnP := [fn_25, fn_26, fn_27, fn_28, fn_29, fn_30, fn_31, fn_32, fn_33, fn_34, fn_35, fn_36, fn_37, fn_38, fn_39]
def fn1_1 : List Hk.FnP := [fn_40, fn_41, fn_42, fn_43, fn_44, fn_45, fn_46, fn_47, fn_48, fn_49]
def fn1_ : List Hk.FnP := fn1_0 ++ (fn1_1)
def fn2_0 : List Hk.FnP := [fn_50, fn_51, fn_52, fn_53, fn_54, fn_55, fn_56, fn_57, fn_58, fn_59, fn_60, fn_61, fn_62, fn_63, fn_64]
def fn2_1 : List Hk.FnP := [fn_65, fn_66]
def fn2_ : List Hk.FnP := fn2_0 ++ (fn2_1)
def ts : List He.Tab := []
def ck_f0 : Hk.Ck := ⟨fa0_, fn0_, ts⟩
def ck_f1 : Hk.Ck := ⟨fa1_, fn1_, []⟩
def ck_f2 : Hk.Ck := ⟨fa2_, fn2_, []⟩
def cks : List Hk.Ck := [ck_f0, ck_f1, ck_f2]
abbrev hk : PySem.W.Hook := Hk.hookC cks
def ob (s : PySem.W.SharedT) : List Hk.AlX := Hk.obCs cks s
theorem ob_eq (s : PySem.W.SharedT) : ob s = hk.obs s.abs := Hk.obCs_eq s
set_option maxHeartbeats 0 in
theorem run0_f (w : World) : Hk.Run0 R qv 14000 names (w.withFollow "special-get-raises" false) := by
  intro os; kernel_rfl
set_option maxHeartbeats 0 in
theorem run0_t (w : World) : Hk.Run0 R qv 14000 names (w.withFollow "special-get-raises" true) := by
  intro os; kernel_rfl
theorem run0 (w : World) : Hk.Run0 R qv 14000 names w := PySem.W.byRow2 "special-get-raises" (P := Hk.Run0 R qv 14000 names) run0_f run0_t w
set_option maxHeartbeats 0 in
theorem run_f0_f (w : World) : Hk.RunC R 14000 ck_f0 (w.withFollow "special-get-raises" false) := by
  intro os; kernel_rfl
set_option maxHeartbeats 0 in
theorem run_f0_t (w : World) : Hk.RunC R 14000 ck_f0 (w.withFollow "special-get-raises" true) := by
  intro os; kernel_rfl
theorem run_f0 (w : World) : Hk.RunC R 14000 ck_f0 w := PySem.W.byRow2 "special-get-raises" (P := Hk.RunC R 14000 ck_f0) run_f0_f run_f0_t w
set_option maxHeartbeats 0 in
theorem run_f1_f (w : World) : Hk.RunC R 14000 ck_f1 (w.withFollow "special-get-raises" false) := by
  intro os; kernel_rfl
set_option maxHeartbeats 0 in
theorem run_f1_t (w : World) : Hk.RunC R 14000 ck_f1 (w.withFollow "special-get-raises" true) := by
  intro os; kernel_rfl
theorem run_f1 (w : World) : Hk.RunC R 14000 ck_f1 w := PySem.W.byRow2 "special-get-raises" (P := Hk.RunC R 14000 ck_f1) run_f1_f run_f1_t w
set_option maxHeartbeats 0 in
theorem run_f2_f (w : World) : Hk.RunC R 14000 ck_f2 (w.withFollow "special-get-raises" false) := by
  intro os; kernel_rfl
set_option maxHeartbeats 0 in
theorem run_f2_t (w : World) : Hk.RunC R 14000 ck_f2 (w.withFollow "special-get-raises" true) := by
  intro os; kernel_rfl
theorem run_f2 (w : World) : Hk.RunC R 14000 ck_f2 w := PySem.W.byRow2 "special-get-raises" (P := Hk.RunC R 14000 ck_f2) run_f2_f run_f2_t w
theorem run (w : World) : HandSHeadRun.RunEq R qv hk ob 14000 names w := Hk.run_of (run0 w) fun c hc => by
  simp only [cks, List.mem_cons, List.not_mem_nil, or_false] at hc
  rcases hc with rfl | rfl | rfl
  · exact run_f0 w
  · exact run_f1 w
  · exact run_f2 w
end Hd
section
open PySem PySem.W PySem.Calls PyProof.Rows
set_option maxRecDepth 100000 in
set_option maxHeartbeats 0 in
theorem Hd.early_ (hc : PySem.W.WalkO Hd.qv Hd.names (PySem.W.XL Hd.qv []) Hd.hk.says (PySem.W.OpenRow.toRowW (OpenLaw.row PySem.Challenge.rw_tarhouse_k32_houses_compared)) (HandSHeadRun.topDef (OpenLaw.row PySem.Challenge.rw_tarhouse_k32_houses_compared).prog 87) [] (fun f vs => PySem.call f vs)) : PySem.Challenge.rw_tarhouse_k32_houses_compared.Holds := by
  w_on; o_law
  refine HandSHeadRun.head_any (r := OpenLaw.row PySem.Challenge.rw_tarhouse_k32_houses_compared) (q := Hd.qv) (H := Hd.hk) (ob := Hd.ob) (M := 14000) (loose := Hd.names) (d := HandSHeadRun.topDef (OpenLaw.row PySem.Challenge.rw_tarhouse_k32_houses_compared).prog 87) (kwd := []) Hd.ob_eq
    (by kernel_rfl) (fun s => by kernel_rfl) Hd.run (by kernel_rfl) (by kernel_rfl) (by kernel_rfl) (by rfl) (by first | assumption | decide +kernel) (by decide +kernel) ⟨rfl, rfl, rfl, rfl, rfl, by decide +kernel⟩ ?hw hc
  case hw => w_witness2
end
namespace Th
open PySem PySem.Spec PyProof.Rows L2
section
variable {K : PySem.W.Frag} {σ : L2.St} {H : Hp} {Q : VK} {D : Ends} {t u : TS} {c : TT} {te ta tb tx : TE} {g : TG} {r r' : R2} {v x y : V} {i : Nat} {to tp : TO}
theorem r_seq (h : t { D with nx := u D } σ H) : tSeq t u D σ H := h
theorem r_if (h : c σ H fun b H1 => if b = true then t D σ H1 else u D σ H1) : tIfS c t u D σ H := h
theorem r_asg (h : te σ H fun x H1 => g x σ H1 D.nx) : tAsg te g D σ H := h
theorem r_ret (h : te σ H D.rt) : tRet te D σ H := h
theorem r_next (h : D.nx σ H) : tNext D σ H := h
theorem r_drop (h : te σ H fun _ H1 => D.nx σ H1) : tDrop te D σ H := h
theorem r_cont (h : D.ct σ H) : tCont D σ H := h
theorem r_brk (h : D.bk σ H) : tBreak D σ H := h
theorem r_gname {Q : L2.St → Hp → Prop} (h : Q (σ.set i (some v)) H) : gName i v σ H Q := h
theorem r_var (e : σ[i]? = some (some v)) (h : Q v H) : tVar i σ H Q := ⟨v, e, h⟩
theorem r_c (h : Q v H) : tC v σ H Q := h
theorem r_op (h : ta σ H fun x H1 => tb σ H1 fun y H2 => r x y H2 Q) : tOp r ta tb σ H Q := h
theorem r_un {r : V → Hp → VK → Prop} (h : ta σ H fun x H1 => r x H1 Q) : tUn r ta σ H Q := h
theorem r_neg {i : Int} (h : Q (.int (-i)) H) : rU (fun i => .int (-i)) (.int i) H Q := ⟨i, rfl, h⟩
theorem r_I0 {g : Int → Int → V} {i j : Int} (h : Q (g i j) H) : rI0 g (.int i) (.int j) H Q := ⟨i, j, rfl, rfl, h⟩
theorem r_I {C : Int → Int → Prop} {g : Int → Int → V} {i j : Int} (hc : C i j) (h : Q (g i j) H) : rI C g (.int i) (.int j) H Q := ⟨i, j, rfl, rfl, hc, h⟩
theorem r_test {t : TE} {Q : Bool → Hp → Prop} (h : t σ H fun x H' => ∃ k, x = .bl k ∧ Q k H') : tTest t σ H Q := h
theorem r_tB {t : TE} {Q : Bool → Hp → Prop} (h : t σ H fun x H' => ∃ k, x = .bl k ∧ Q k H') : tB t σ H Q := h
theorem r_bl {b : Bool} {P : Bool → Prop} (h : P b) : ∃ k, V.bl b = .bl k ∧ P k := ⟨b, rfl, h⟩
theorem r_not {t : TT} {Q : Bool → Hp → Prop} (h : t σ H fun c H1 => Q (!c) H1) : tNot t σ H Q := h
theorem r_and {t u : TT} {Q : Bool → Hp → Prop} (h : t σ H fun c H1 => if c = true then u σ H1 Q else Q false H1) : tAnd t u σ H Q := h
theorem r_or {t u : TT} {Q : Bool → Hp → Prop} (h : t σ H fun c H1 => if c = true then Q true H1 else u σ H1 Q) : tOr t u σ H Q := h
theorem r_ifE {t : TT} (h : t σ H fun c H1 => if c = true then ta σ H1 Q else tb σ H1 Q) : tIf t ta tb σ H Q := h
theorem r_notV {t : TE} (h : t σ H fun x H1 => ∃ k, x = .bl k ∧ Q (.bl (!k)) H1) : tNotV t σ H Q := h
theorem r_andV (h : ta σ H fun x H1 => ∃ k, x = .bl k ∧ if k = true then tb σ H1 Q else Q (.bl false) H1) : tAndV ta tb σ H Q := h
theorem r_orV (h : ta σ H fun x H1 => ∃ k, x = .bl k ∧ if k = true then Q (.bl true) H1 else tb σ H1 Q) : tOrV ta tb σ H Q := h
theorem r_chain (h : ta σ H fun x H1 => tb σ H1 fun y H2 => r x y H2 fun z H3 => ∃ k, z = .bl k ∧ (if k = true then tx σ H3 fun w' H4 => r' y w' H4 Q else Q (.bl false) H3)) : tChain r r' ta tb tx σ H Q := h
theorem r_iteD {p A B : Prop} [Decidable p] (h1 : p → A) (h2 : ¬ p → B) : if decide p = true then A else B := by
  by_cases h : p
  · rw [if_pos (decide_eq_true h)]; exact h1 h
  · rw [if_neg (by rw [decide_eq_false h]; exact Bool.false_ne_true)]; exact h2 h
theorem r_iteT {A B : Prop} (h : A) : if true = true then A else B := by rw [if_pos rfl]; exact h
theorem r_iteF {A B : Prop} (h : B) : if false = true then A else B := by rw [if_neg Bool.false_ne_true]; exact h
theorem r_iteNT {A B : Prop} (h : B) : if (!true) = true then A else B := by rw [if_neg (by decide)]; exact h
theorem r_iteNF {A B : Prop} (h : A) : if (!false) = true then A else B := by rw [if_pos (by decide)]; exact h
theorem r_iteN {b : Bool} {A B : Prop} (h1 : b = false → A) (h2 : b = true → B) : if (!b) = true then A else B := by
  cases b with
  | true => exact r_iteNT (h2 rfl)
  | false => exact r_iteNF (h1 rfl)
theorem r_cb {r : List V → Hp → VK → Prop} {t : TA} (h : t σ H fun vs H1 => r vs H1 Q) : tCB r t σ H Q := h
theorem r_call {sp : Sp} {dvs : List V} {E : XK} {t : TA} (h : t σ H fun vs H1 => sp (vs ++ dvs) H1 Q E) : tCall sp dvs E t σ H Q := h
theorem r_nil {Q : List V → Hp → Prop} (h : Q [] H) : tNil σ H Q := h
theorem r_cons {tr : TA} {Q : List V → Hp → Prop} (h : ta σ H fun x H1 => tr σ H1 fun xs H2 => Q (x :: xs) H2) : tCons ta tr σ H Q := h
theorem r_lst {t : TA} (h : t σ H fun xs H1 => xs.length ≤ sizeLine ∧ ∀ p, H1 p = none → Q (.ref p) (upd H1 p (.lst xs))) : tLst t σ H Q := h
theorem r_tup {t : TA} (h : t σ H fun xs H1 => xs.length ≤ sizeLine ∧ ∀ p, H1 p = none → Q (.ref p) (upd H1 p (.tup xs))) : tTup t σ H Q := h
theorem r_new {n m : Nat} {P : Prop} (h : n ≤ m) (q : P) : n ≤ m ∧ P := ⟨h, q⟩
theorem r_ixL {p : Addr} {xs : List V} {i : Int} {v : V} (hp : SqL K H p xs) (hi : atI xs i = some v) (h : Q v H) : rIxL K (.ref p) (.int i) H Q := ⟨p, xs, i, v, rfl, rfl, hp, hi, h⟩
theorem r_ixT {p : Addr} {xs : List V} {i : Int} {v : V} (hp : SqT K H p xs) (hi : atI xs i = some v) (h : Q v H) : rIxT K (.ref p) (.int i) H Q := ⟨p, xs, i, v, rfl, rfl, hp, hi, h⟩
theorem r_gsub {ti : TE} {t : TSet} {Q : L2.St → Hp → Prop} (h : ta σ H fun o H1 => ti σ H1 fun i H2 => t o i v H2 fun H3 => Q σ H3) : gSub ta ti t v σ H Q := h
theorem r_setL {p : Addr} {xs : List V} {k : Int} {j : Nat} {Q : Hp → Prop} (hp : H p = some (.lst xs)) (hk : ixN xs.length k = some j) (h : Q (upd H p (.lst (xs.set j v)))) : rSetL (.ref p) (.int k) v H Q := ⟨p, xs, k, j, rfl, rfl, hp, hk, h⟩
/-! ### heaps -/
theorem upd_old {p a : Addr} {o x : HO} (hp : H p = none) (ha : H a = some x) : upd H p o a = some x := by rw [upd_ne (ne_of_none ha hp)]; exact ha
theorem upd_diff {p a : Addr} {o x : HO} (n : a ≠ p) (ha : H a = some x) : upd H p o a = some x := by rw [upd_ne n]; exact ha
/-- what is not at a stays -/
def But (a : Addr) (H H' : Hp) : Prop := ∀ b o, b ≠ a → H b = some o → H' b = some o
end
end Th
namespace Th
open PySem PySem.Spec PyProof.Rows L2
/-! ### calls of own defs, by one fact each -/
structure CalT (P : Program) (w : World) (K : PySem.W.Frag) (mg : Str → Option Value) (base : Heap) (k : Nat) (x : Str) (sp : Sp) : Prop where
  ex : ∃ (f : Addr) (fd : FuncData) (ps : List Str), FnOk P w K mg base CX0 k f fd ps sp ∧ mg x = some (.ref f) ∧ PySem.W.keepIn K (.ref f) = true ∧ Binds K fd ps []
section
variable {X : Cx} {j k : Nat} {x : Str} {sp : Sp} {e : Expr} {es : List Expr} {p pos : Pos} {t tk : TA} {ks : List Str} {kws : List Keyword}
theorem pe_cc (c : CalT X.prog X.w X.K X.mg X.base k x sp) (hr : Room j X.A) (hk : k ≤ j) (hg : Gl X x) (ha : PA X (e :: es) t) (hdb : (x == ("__debug__" : Str)) = false := by decide)
    (he : starEach (e :: es) X.env = (false, eval e X.env) :: starEach es X.env := by rfl) (hpl : (backTo pos (starEach es X.env)).any (·.1) = false := by rfl) : PE X (.Call (.Name x p) (e :: es) [] pos) (tCall sp [] E0 t) := by
  obtain ⟨f, fd, ps, F, hm, kp, b⟩ := c.ex
  exact pe_call F (hr.mono hk) hg hm kp b .nil pass0 ha hdb he hpl
theorem pe_cc0 (c : CalT X.prog X.w X.K X.mg X.base k x sp) (hr : Room j X.A) (hk : k ≤ j) (hg : Gl X x) (hdb : (x == ("__debug__" : Str)) = false := by decide) : PE X (.Call (.Name x p) [] [] pos) (tCall sp [] E0 tNil) := by
  obtain ⟨f, fd, ps, F, hm, kp, b⟩ := c.ex
  exact pe_call0 F (hr.mono hk) hg hm kp b .nil pass0 hdb
end
section
variable {K : PySem.W.Frag} {σ : L2.St} {H : Hp} {Q : VK}
theorem r_callN {n m : Nat} {sp : Sp} {gV : List V → List V → List V} {E : XK} {t tk : TA} (h : t σ H fun vs H1 => tk σ H1 fun zs H2 => vs.length = n ∧ zs.length = m ∧ sp (gV vs zs) H2 Q E) : tCallN n m sp gV E t tk σ H Q := h
/-! ### built-in functions, by names -/
def rInt1 : List V → Hp → VK → Prop := fun xs H Q => ∃ i, xs = [.int i] ∧ Q (.int i) H
theorem call_rInt1 {X : Cx} : CallR X (.type "int") rInt1 := fun pins s σ H xs us Q I r h => call_int1 pins s σ H xs us Q I r (.inl h)
theorem r_rInt1 {i : Int} (h : Q (.int i) H) : rInt1 [.int i] H Q := ⟨i, rfl, h⟩
def rIntB : List V → Hp → VK → Prop := fun xs H Q => ∃ i, xs = [.bl i] ∧ Q (.int (if i then 1 else 0)) H
theorem r_rIntB {i : Bool} (h : Q (.int (if i then 1 else 0)) H) : rIntB [.bl i] H Q := ⟨i, rfl, h⟩
def rAbs : List V → Hp → VK → Prop := fun xs H Q => ∃ i, xs = [.int i] ∧ Q (.int (if i < 0 then -i else i)) H
theorem call_rAbs {X : Cx} : CallR X (.builtin "abs") rAbs := call_abs
theorem r_rAbs {i : Int} (h : Q (.int (if i < 0 then -i else i)) H) : rAbs [.int i] H Q := ⟨i, rfl, h⟩
def rMin2 : List V → Hp → VK → Prop := fun xs H Q => ∃ i j, xs = [.int i, .int j] ∧ Q (.int (if j < i then j else i)) H
theorem call_rMin2 {X : Cx} (hc : X.calm = true := by rfl) : CallR X (.builtin "min") rMin2 := call_min2 hc
theorem r_rMin2 {i j : Int} (h : Q (.int (if j < i then j else i)) H) : rMin2 [.int i, .int j] H Q := ⟨i, j, rfl, h⟩
def rMax2 : List V → Hp → VK → Prop := fun xs H Q => ∃ i j, xs = [.int i, .int j] ∧ Q (.int (if j > i then j else i)) H
theorem call_rMax2 {X : Cx} (hc : X.calm = true := by rfl) : CallR X (.builtin "max") rMax2 := call_max2 hc
theorem r_rMax2 {i j : Int} (h : Q (.int (if j > i then j else i)) H) : rMax2 [.int i, .int j] H Q := ⟨i, j, rfl, h⟩
def rLenQ (K : PySem.W.Frag) : List V → Hp → VK → Prop := fun xs H Q => ∃ p ys, xs = [.ref p] ∧ (SqL K H p ys ∨ SqT K H p ys) ∧ Q (.int ys.length) H
theorem call_rLenQ {X : Cx} : CallR X (.builtin "len") (rLenQ X.K) := call_len_seq
theorem r_rLenQ {p : Addr} {ys : List V} (hp : SqL K H p ys ∨ SqT K H p ys) (h : Q (.int ys.length) H) : rLenQ K [.ref p] H Q := ⟨p, ys, rfl, hp, h⟩
def rLenZ : List V → Hp → VK → Prop := fun xs H Q => ∃ z, xs = [.str z] ∧ z.length ≤ sizeLine ∧ Q (.int z.length) H
theorem call_rLenZ {X : Cx} : CallR X (.builtin "len") rLenZ := call_len_str
theorem r_rLenZ {z : Str} (hz : z.length ≤ sizeLine) (h : Q (.int z.length) H) : rLenZ [.str z] H Q := ⟨z, rfl, hz, h⟩
def rAddZ : R2 := fun x y H Q => ∃ i j, x = .str i ∧ y = .str j ∧ i.length + j.length ≤ sizeLine ∧ Q (.str (i ++ j)) H
theorem r_addZ {i j : Str} (hz : i.length + j.length ≤ sizeLine) (h : Q (.str (i ++ j)) H) : rAddZ (.str i) (.str j) H Q := ⟨i, j, rfl, rfl, hz, h⟩
def rInC : R2 := fun x y H Q => ∃ (c : Nat) (z : Str), x = .str ⟨#[c]⟩ ∧ y = .str z ∧ Q (.bl (decide (c ∈ z.cps.toList))) H
theorem op_inSign {X : Cx} : OpR X (compareOp .In) rInC := op_in_sign
theorem r_inC {c : Nat} {z : Str} (h : Q (.bl (decide (c ∈ z.cps.toList))) H) : rInC (.str ⟨#[c]⟩) (.str z) H Q := ⟨c, z, rfl, rfl, h⟩
theorem r_eq {x y : V} (hs : scal x y = true) (h : Q (.bl (decide (x = y))) H) : rEq x y H Q := ⟨hs, h⟩
theorem r_ne {x y : V} (hs : scal x y = true) (h : Q (.bl (!decide (x = y))) H) : rNe x y H Q := ⟨hs, h⟩
theorem r_cat {l b : Addr} {xs zs : List V} (hl : H l = some (.lst xs)) (hb : H b = some (.lst zs)) (hz : xs.length + zs.length ≤ sizeLine) (h : ∀ p, H p = none → Q (.ref p) (upd H p (.lst (xs ++ zs)))) : rCat (.ref l) (.ref b) H Q := ⟨l, b, xs, zs, rfl, rfl, hl, hb, hz, h⟩
theorem r_rep {l : Addr} {k : Int} {xs : List V} (hl : H l = some (.lst xs)) (h0 : -(2 ^ 63) ≤ k) (h1 : k < 2 ^ 63) (hz : xs.length * k.toNat ≤ sizeLine) (h : ∀ p, H p = none → Q (.ref p) (upd H p (.lst (List.replicate k.toNat xs).flatten))) : rRep (.ref l) (.int k) H Q := ⟨l, k, xs, rfl, rfl, hl, h0, h1, hz, h⟩
theorem r_append {l : Addr} {xs : List V} {y : V} (hl : H l = some (.lst xs)) (hz : xs.length < sizeLine) (h : Q .non (upd H l (.lst (xs ++ [y])))) : rAppend (.ref l) [y] H Q := ⟨l, xs, y, rfl, rfl, hl, hz, h⟩
theorem r_bm {T : String} {r : V → List V → Hp → VK → Prop} {to : TE} {t : TA} (h : to σ H fun x H1 => tyV K T x H1 ∧ t σ H1 fun xs H2 => r x xs H2 Q) : tBM K T r to t σ H Q := h
theorem r_tyL {p : Addr} {xs : List V} {P : Prop} (hp : H p = some (.lst xs)) (h : P) : tyV K "list" (.ref p) H ∧ P := ⟨.inl ⟨rfl, _, SqL.of hp⟩, h⟩
theorem r_all {a : Addr} {bs : List Bool} (hp : SqL K H a (bs.map V.bl)) (h : Q (.bl (bs.all id)) H) : rAll K [.ref a] H Q := ⟨a, bs, rfl, hp, h⟩
theorem r_any {a : Addr} {bs : List Bool} (hp : SqL K H a (bs.map V.bl)) (h : Q (.bl (bs.any id)) H) : rAny K [.ref a] H Q := ⟨a, bs, rfl, hp, h⟩
end
end Th
namespace Th
open PySem PySem.Spec PyProof.Rows L2
/-! ### a def that may lean on it that nothing is being shown (repr of a list, a tuple, a dict) -/
structure FnG (P : Program) (w : World) (K : PySem.W.Frag) (mg : Str → Option Value) (base : Heap) (k : Nat) (f : Addr) (fd : FuncData) (ps : List Str) (sp : Sp) : Prop where
  len : ∀ vs H Q E, sp vs H Q E → vs.length = ps.length
  run : ∀ (A : Around) (outer : List Env) (s : Shared) (H : Hp) (args : Args) (us : List Value) (vs : List V) (Q : VK) (E : XK), Room k A → A.guards = some [] →
    Env0 P w K mg base A outer s H → BindsTo s fd args (ps.zip us) → Vals vs us → sp vs H Q E → codeAny (model P w) A (.call (.ref f) args) (CR CX0 outer P w H s Q E) s
section
variable {P : Program} {w : World} {K : PySem.W.Frag} {mg : Str → Option Value} {base : Heap}
theorem Fun.okG {x qual : Str} {st : Stmt} {f : Addr} {fd : FuncData} {N ps : List Str} {k : Nat} {sp : Sp} (F : Fun K x qual st f fd) (S : FnScope N ps (defScope st)) (hlen : ∀ vs H Q E, sp vs H Q E → vs.length = ps.length)
    (body : ∀ (cdv : Value) (A : Around) (outer : List Env) (s : Shared) (H : Hp) (vs : List V) (Q : VK) (E : XK), Room k (A.deeper (envOfC qual (defScope st) s.heap.objs.size f cdv)) → A.guards = some [] → sp vs H Q E →
      ∃ t, PSs (cxOf CX0 P w K mg base N qual (defScope st) f cdv A outer s H E).nox (defBody st) t ∧ t { nx := fun _ H' => Q .non H', rt := Q } (start N vs) H) : FnG P w K mg base (k + 1) f fd ps sp := by
  obtain ⟨oc, od, kV, doc, pm, an, cdv, ct, osl, e, lk, hcd⟩ := F.ex
  subst e
  constructor
  · exact hlen
  · intro A outer s H args us vs Q E room gd env0 bnd rel wish
    have stands : ∀ b o, base.get? b = some o → s.heap.get? b = some o := fun b o e => (env0.bs b o e).1
    have kin := env0.mod.kin.keeps stands
    have nol := env0.mod.nolimit.keeps stands
    apply codeAny_call_function room.depth (kin _ _ lk) rfl S.co S.gen rfl (PySem.W.codeRec_of kin hcd)
    refine bnd _ _ _ _ (wpAny_newFunctionEnv_cells S.kind ?kinds ?go)
    case kinds =>
      rintro ⟨n, v⟩ hy
      cases S.par n (List.of_mem_zip hy).1 with
      | inl q => exact Or.inl q
      | inr q => exact Or.inr ⟨q, PySem.W.cellsFrom_some _ _ _ (Or.inl q)⟩
    case go =>
      intro env he s1 inside
      subst he
      refine ⟨nol.keeps inside.toInCall.keep, codeAny_func ?_⟩
      obtain ⟨t, derived, wished⟩ := body cdv A outer s H vs Q E (room.deeper _) gd wish
      have J := inv_start (CX := CX0) (E := E) S room.hd env0 (hlen _ _ _ _ wish) rel inside
      refine wpAny_mono (derived.nox.run [] s1 _ H _ J wished) ?_ (fun e s' z => z)
      intro fl s' z
      cases fl with
      | next =>
        obtain ⟨σ', H', J', q⟩ := z
        exact ⟨V.non, H', J'.os, J'.bare, J'.base, J'.hok, rfl, q⟩
      | ret u =>
        obtain ⟨v, σ', H', J', rv, q⟩ := z
        exact ⟨v, H', J'.os, J'.bare, J'.base, J'.hok, rv, q⟩
      | brk =>
        obtain ⟨_, _, _, q⟩ := z
        exact q.elim
      | cont =>
        obtain ⟨_, _, _, q⟩ := z
        exact q.elim
/-- the law's own call -/
theorem lawG {k : Nat} {mb : Str → Option Value} {fa a : Addr} {fd : FuncData} {x : Str} {sp : Sp} {s₁ : Shared} {vs : List Value} {ns : List Int}
    (KX : K.In s₁.heap) (hns : s₁.heap.Ns mainGlobals mg) (hb : s₁.heap.Ns builtinsNs mb) (hbb : ∀ x : Str, x ≠ "__name__" → mb x = bootBuiltins x) (hlim : s₁.heap.NoLimit) (hg : s₁.gens = #[])
    (ha : s₁.heap.get? a = some { cls := .type "list", data := .seq vs.toArray }) (hi : IntsAre vs ns) (hl : ns.length ≤ sizeLine) (room : Room k callerA)
    (F : ∀ base : Heap, K.In base → base.Ns mainGlobals mg → FnG P w K mg base k fa fd [x] sp) (hbind : ∀ (s : Shared) (u : Value), BindsTo s fd ⟨[u], []⟩ [(x, u)])
    (hsp : ∀ H : Hp, Only H → SqL K H a (ns.map V.int) → sp [.ref a] H (fun v _ => v = .bl true) fun _ _ _ => False) :
    codeAny (model P w) callerA (.call (.ref fa) ⟨[.ref a], []⟩) (fun r s' => r = .ok (.ret (.bool true)) ∧ OldK s₁.heap s'.heap ∧ s'.os = s₁.os ∧ AllBare s'.gens) s₁ := by
  have rv : Vals (ns.map V.int) vs := vals_ints hi
  have hlen : vs.length = ns.length := by have := rv.length; rw [List.length_map] at this; omega
  have main : ∀ H : Hp, Only H → SqL K H a (ns.map V.int) → HOk P w H s₁.heap → (∀ b u, H b = some u → b = a) → (∀ u, H a = some u → K.lookup a = none) →
      codeAny (model P w) callerA (.call (.ref fa) ⟨[.ref a], []⟩) (fun r s' => r = .ok (.ret (.bool true)) ∧ OldK s₁.heap s'.heap ∧ s'.os = s₁.os ∧ AllBare s'.gens) s₁ := by
    intro H only sq hok onlyA notK
    have dictFree : ∀ (b : Addr) (o : Obj) (es : Array DictEntry) (ep : Nat), s₁.heap.get? b = some o → o.data = .dict es ep → H b = none := by
      intro b o es ep ho hd
      cases hq : H b with
      | none => rfl
      | some u =>
        rw [onlyA b u hq, ha] at ho
        cases ho
        exact nomatch hd
    have nsB : ∀ {b : Addr} {m : Str → Option Value}, s₁.heap.Ns b m → (hidT s₁.heap H).Ns b m := by
      rintro b m ⟨o, es, ep, ho, hd, rest⟩
      exact ⟨o, es, ep, hidT_get ho (dictFree b o es ep ho hd), hd, rest⟩
    have kB : K.In (hidT s₁.heap H) := by
      intro b o ho
      refine hidT_get (KX b o ho) ?_
      cases hq : H b with
      | none => rfl
      | some u =>
        have hba := onlyA b u hq
        rw [hba] at ho hq
        rw [notK u hq] at ho
        cases ho
    obtain ⟨mc, lim1, lim2⟩ := hlim
    have modl : Mod K mg (hidT s₁.heap H) := ⟨kB, nsB hns, ⟨mb, nsB hb, hbb⟩, ⟨mc, nsB lim1, lim2⟩⟩
    have noFr : ∀ b ∈ frs [], H b = none := fun b z => by cases z
    have E0' : Env0 P w K mg (hidT s₁.heap H) callerA [] s₁ H := ⟨rfl, modl, fun b o e => of_hidT e, by rw [hidT_size]; exact Nat.le_refl _, trivial, noFr, hok, .of_eq hg⟩
    have ran := (F _ kB (nsB hns)).run callerA [] s₁ H ⟨[.ref a], []⟩ [.ref a] [.ref a] _ _ room rfl E0' (hbind s₁ (.ref a)) (.cons rfl .nil) (hsp H only sq)
    refine codeAny_mono ran ?_
    intro r s' z
    cases r with
    | error e => exact False.elim z
    | ok fl =>
      cases fl with
      | ret u =>
        obtain ⟨v, H', os, bare, un, hok', rel, isT⟩ := z
        have isT' : v = .bl true := isT
        rw [isT'] at rel
        have hu : u = Value.bool true := rel
        refine ⟨by rw [hu], OldK.of_keep ?_, os, bare⟩
        intro b o ho
        cases hq : H b with
        | none => exact un.keep b o ho hq (fun z => by cases z) (fun z => by cases z)
        | some u2 =>
          cases only b with
          | inl z => rw [hq] at z; cases z
          | inr z =>
            obtain ⟨ob, xs, z⟩ := z
            have ⟨g1, _⟩ := hok b _ z
            have ⟨g2, _⟩ := hok' b _ (un.frzs b ob _ z)
            rw [ho] at g1
            cases g1
            exact g2
      | next => exact False.elim z
      | brk => exact False.elim z
      | cont => exact False.elim z
  by_cases hk : K.lookup a = none
  · let script : HO := .frz { cls := .type "list", data := .seq vs.toArray } (.lst (ns.map V.int))
    have atA : ∀ b u, (if b = a then some script else none) = some u → b = a ∧ u = script := by
      intro b u z
      by_cases e : b = a
      · rw [if_pos e] at z; cases z; exact ⟨e, rfl⟩
      · rw [if_neg e] at z; cases z
    refine main (fun b => if b = a then some script else none) ?_ (.inl (.inr ⟨_, if_pos rfl⟩)) ?_ (fun b u z => (atA b u z).1) (fun _ _ => hk)
    · intro b
      by_cases e : b = a
      · exact .inr ⟨_, _, if_pos e⟩
      · exact .inl (if_neg e)
    · intro b u z
      obtain ⟨e1, e2⟩ := atA b u z
      rw [e1, e2]
      exact ⟨ha, by rw [List.length_map]; exact hl, vs, _, rv, ha⟩
  · obtain ⟨o, ho⟩ : ∃ o, K.lookup a = some o := by
      cases q : K.lookup a with
      | none => exact absurd q hk
      | some o => exact ⟨o, rfl⟩
    have same := KX a o ho
    rw [ha] at same
    cases same
    exact main (fun _ => none) (fun _ => .inl rfl) (.inr ⟨_, vs.toArray, _, ho, rfl, rfl, rfl, by rw [List.size_toArray, hlen]; exact hl, rv⟩) (fun b u z => nomatch z) (fun b u z => nomatch z) (fun u z => nomatch z)
end
/-! ### repr of data -/
/-! ### a text times an int -/
theorem fold_rep (a : Array Nat) : ∀ (n : Nat) (acc : Array Nat), ((List.replicate n a).foldl (· ++ ·) acc).toList = acc.toList ++ (List.replicate n a.toList).flatten
  | 0, acc => by simp
  | n + 1, acc => by
    rw [List.replicate_succ, List.foldl_cons, fold_rep a n, List.replicate_succ, List.flatten_cons, Array.toList_append, List.append_assoc]
theorem fold_rep_size (a : Array Nat) (n : Nat) : ((List.replicate n a).foldl (· ++ ·) #[]).size = n * a.size := by
  have h := congrArg List.length (fold_rep a n #[])
  simpa using h
def repZ (z : Str) (k : Int) : Str := if k < 1 then Str.empty else if (k == 1 || z.length == 0) = true then z else ⟨(List.replicate k.toNat z.cps).foldl (· ++ ·) #[]⟩
def rMulZ : R2 := fun x y H Q => ∃ z k, x = .str z ∧ y = .int k ∧ z.length ≤ 1000 ∧ -(2 ^ 62) ≤ k ∧ k ≤ 5000 ∧ Q (.str (repZ z k)) H
theorem op_mulS {X : Cx} : OpR X (binaryOp .Mult) rMulZ := by
  intro pins s σ H x y v u Q I rx ry h
  obtain ⟨z, k, rfl, rfl, hz, h0, h1, q⟩ := h
  obtain ⟨t, rfl⟩ := rx
  obtain ⟨t', rfl⟩ := ry
  have hzi : (z.length : Int) ≤ 1000 := by omega
  refine PySem.P.mul_str ?_ (fun hk _ => ?_) (fun hk _ => ?_) ?_
  · rw [decide_eq_false (by omega : ¬ k < -(2 ^ 63 : Int)), decide_eq_false (by omega : ¬ k ≥ 2 ^ 63)]; rfl
  · intro hbig
    have hd : (5000 : Int) ≤ (2 ^ 63 - 1) / k := by
      rw [Int.le_ediv_iff_mul_le (by omega)]
      have : (5000 : Int) * k ≤ 5000 * 5000 := Int.mul_le_mul_of_nonneg_left h1 (by decide)
      omega
    omega
  · unfold Builtin.Str.tooLong
    rw [decide_eq_false]
    have hk5 : k.toNat ≤ 5000 := by omega
    have := Nat.mul_le_mul hz hk5
    rw [sizeLine_eq]
    omega
  · unfold repZ at q
    by_cases c1 : k < 1
    · rw [if_pos c1] at q ⊢
      exact ⟨by decide, ⟨.str _, H, I.tok _, ⟨_, rfl⟩, q⟩⟩
    · rw [if_neg c1] at q ⊢
      by_cases c2 : (k == 1 || z.length == 0) = true
      · rw [if_pos c2] at q ⊢
        exact ⟨.str z, H, I, ⟨t, rfl⟩, q⟩
      · rw [if_neg c2] at q ⊢
        refine ⟨?_, ⟨.str _, H, I.tok _, ⟨_, rfl⟩, q⟩⟩
        show ((List.replicate k.toNat z.cps).foldl (· ++ ·) #[]).size ≤ sizeLine
        rw [fold_rep_size]
        have hk5 : k.toNat ≤ 5000 := by omega
        have hz' : z.cps.size ≤ 1000 := hz
        have := Nat.mul_le_mul hk5 hz'
        rw [sizeLine_eq]
        omega
theorem r_mulZ {H : Hp} {Q : VK} {z : Str} {k : Int} (hz : z.length ≤ 1000) (h0 : -(2 ^ 62) ≤ k) (h1 : k ≤ 5000) (h : Q (.str (repZ z k)) H) : rMulZ (.str z) (.int k) H Q := ⟨z, k, rfl, rfl, hz, h0, h1, h⟩
/-! ### comprehensions without a test, whose element only reads (and makes) -/
theorem same_new {H : Hp} {p : Addr} {o : HO} (h : H p = none) : Same H (upd H p o) := fun b u e => by rw [upd_ne (ne_of_none e h)]; exact e
theorem walk_strC {z : Str} : Walk (Its z) (z.cps.toList.map fun c => V.str ⟨#[c]⟩).length (fun _ => True) (YAt (z.cps.toList.map fun c => V.str ⟨#[c]⟩)) := by
  have e : (z.cps.toList.map fun c => V.str ⟨#[c]⟩).length = z.cps.size := by simp
  rw [e]
  refine walk_str.mono (fun _ h => h) ?_
  rintro i H x H' hi _ ⟨e1, c, hc, rfl⟩
  refine ⟨e1, ?_⟩
  rw [List.getElem?_map, Array.getElem?_toList, hc]
  rfl
theorem lc_map {α : Type} {J : It} {cs : List α} {enc f : α → V} {G : Hp → Prop} (w : Walk J (cs.map enc).length G (YAt (cs.map enc))) {j : Nat} {vs : List Nat} {σ : L2.St} {H1 : Hp} {D : Addr} {te : TE} {Qd : Hp → Prop}
    (hD : H1 D = none) (hz : cs.length < sizeLine) (hG : ∀ H', Same H1 H' → G H') (hw : ∀ x, wipe ((wipe σ vs).set j (some x)) vs = wipe σ vs)
    (he : ∀ c ∈ cs, ∀ H', Same H1 H' → ∀ Q : VK, (∀ H2, Same H' H2 → Q (f c) H2) → te ((wipe σ vs).set j (some (enc c))) H' Q)
    (hd : ∀ H', Same H1 H' → H' D = some (.lst (cs.map f)) → Qd H') :
    ∃ W : Nat → Nat → Hp → Prop, (∃ m, W 0 m (upd H1 D (.lst []))) ∧ ∀ i m H, W i m H →
      (J.stop i H ∧ Qd H) ∨ (J.go i H ∧ ∃ Nx : Hp → Prop, (∀ H', Nx H' → ∃ m', m' < m ∧ W (i + 1) m' H') ∧ ∀ x H', J.yld i H x H' → gName j x (wipe σ vs) H' fun σ2 H2 => wipe σ2 vs = wipe σ vs ∧ tYes σ2 H2 fun b H3 =>
        if b = true then te σ2 H3 fun y H4 => ∃ acc, H4 D = some (.lst acc) ∧ acc.length < sizeLine ∧ Nx (upd H4 D (.lst (acc ++ [y]))) else Nx H3) := by
  refine lc_it w (fun i H => Same H1 H ∧ H D = some (.lst ((cs.take i).map f))) ⟨same_new hD, by rw [upd_same]; rfl⟩ (fun i H _ p => hG H p.1) ?_ ?_
  · rintro i x H H' hi ⟨s1, hl⟩ ⟨rfl, hx⟩
    rw [List.length_map] at hi
    have hx' : x = enc cs[i] := by
      rw [List.getElem?_map, List.getElem?_eq_getElem hi] at hx
      exact (Option.some.inj hx).symm
    subst hx'
    refine ⟨hw _, ?_⟩
    unfold tYes
    dsimp only
    rw [if_pos rfl]
    refine he cs[i] (List.getElem_mem hi) H' s1 _ ?_
    intro H2 s2
    refine ⟨_, s2 _ _ hl, ?_, ?_, ?_⟩
    · rw [List.length_map, List.length_take]; omega
    · intro b o e
      have nb : b ≠ D := ne_of_none e hD
      rw [upd_ne nb]
      exact s2 _ _ (s1 _ _ e)
    · rw [upd_same, ← List.take_append_getElem hi, List.map_append]
      rfl
  · rintro H ⟨s1, hl⟩
    rw [List.length_map, List.take_length] at hl
    exact hd H s1 hl
/-! ### isinstance of values of built-in types -/
theorem r_isi {K : PySem.W.Frag} {H : Hp} {Q : VK} {x : V} {T n : String} (b : Bool) (ht : TyX K H x (.type T)) (hk : kitB T n = some b) (h : Q (.bl b) H) : rIsi K [x, .ty n] H Q := ⟨x, .ty n, .type T, .type n, b, rfl, .ty n, ht, kit_ty hk, h⟩
theorem r_isiT2 {K : PySem.W.Frag} {H : Hp} {Q : VK} {x : V} {T n m : String} {tp : Addr} (b c : Bool) (hT : H tp = some (.tup [.ty n, .ty m])) (ht : TyX K H x (.type T)) (hk : kitB T n = some b) (hk2 : kitB T m = some c) (h : Q (.bl (b || c)) H) : rIsiT K [x, .ref tp] H Q := by
  refine ⟨x, tp, _, .type T, [.type n, .type m], (b || c), rfl, hT, .cons (.ty n) (.cons (.ty m) .nil), ht, ?_, h⟩
  refine kitAny_cons (b := b) (kit_ty hk) (fun e => ?_) (fun e => by rw [e]; rfl)
  refine kitAny_cons (b := c) (kit_ty hk2) (fun e2 => ?_) (fun e2 => by rw [e2]; simp)
  rw [e, e2]
  exact kitAny_nil
theorem same_tyB {K : PySem.W.Frag} {H H' : Hp} {x : V} {t : Value} (e : Same H H') (h : TyX K H x t) : TyX K H' x t := by
  cases h with
  | base b =>
    cases b with
    | non => exact .base .non
    | bl y => exact .base (.bl y)
    | int y => exact .base (.int y)
    | str y => exact .base (.str y)
    | flt y => exact .base (.flt y)
    | lst z => exact .base (.lst (e _ _ z))
    | frz z => exact .base (.frz (e _ _ z))
    | tup z => exact .base (.tup (e _ _ z))
    | dK z => exact .base (.dK (e _ _ z))
    | dT z => exact .base (.dT (e _ _ z))
    | ins z cl ha hn htk hm => exact .base (.ins (e _ _ z) cl ha hn htk hm)
  | byt y => exact .byt y
  | set z => exact .set (e _ _ z)
  | kList z c => exact .kList z c
  | kTuple z c => exact .kTuple z c
  | kDict z c => exact .kDict z c
  | fTuple z => exact .fTuple (e _ _ z)
  | fDict z => exact .fDict (e _ _ z)
theorem r_r1 {H : Hp} {Q : VK} {k : V → Hp → VK → Prop} {x : V} (h : k x H Q) : r1 k [x] H Q := h
theorem r_bytesL {K : PySem.W.Frag} {H : Hp} {Q : VK} {p : Addr} {ns : List Int} (hp : SqL K H p (ns.map V.int)) (hn : ∀ n ∈ ns, 0 ≤ n ∧ n < 256) (h : Q (.byt (byteArr ns)) H) : kByts K (.ref p) H Q := .inr ⟨p, ns, rfl, hp, hn, h⟩
/-! ### walks -/
theorem r_lc {wi : TI} {g : TG} {tt : TT} {te : TE} {vs : List Nat} {σ : L2.St} {H : Hp} {Q : VK} (h : wi σ H fun J H1 => ∀ D, H1 D = none → ∃ W : Nat → Nat → Hp → Prop, (∃ m, W 0 m (upd H1 D (.lst []))) ∧ ∀ i m H, W i m H →
  (J.stop i H ∧ Q (.ref D) H) ∨ (J.go i H ∧ ∃ Nx : Hp → Prop, (∀ H', Nx H' → ∃ m', m' < m ∧ W (i + 1) m' H') ∧ ∀ x H', J.yld i H x H' → g x (wipe σ vs) H' fun σ2 H2 => wipe σ2 vs = wipe σ vs ∧ tt σ2 H2 fun b H3 =>
    if b = true then te σ2 H3 fun y H4 => ∃ acc, H4 D = some (.lst acc) ∧ acc.length < sizeLine ∧ Nx (upd H4 D (.lst (acc ++ [y]))) else Nx H3)) : tLc wi g tt te vs σ H Q := h
theorem r_for {wi : TI} {g : TG} {tb : TS} {D : Ends} {σ : L2.St} {H : Hp} (h : wi σ H fun J H1 => ∃ W : Nat → Nat → L2.St → Hp → Prop, (∃ m, W 0 m σ H1) ∧ ∀ i m σ H, W i m σ H →
  (J.stop i H ∧ D.nx σ H) ∨ (J.go i H ∧ ∃ N : L2.St → Hp → Prop, (∀ σ' H', N σ' H' → ∃ m', m' < m ∧ W (i + 1) m' σ' H') ∧ ∀ x H', J.yld i H x H' → g x σ H' fun σ2 H2 => tb { D with nx := N, ct := N, bk := D.nx } σ2 H2)) : tFor wi g tb D σ H := h
theorem r_iStr {te : TE} {σ : L2.St} {H : Hp} {R : It → Hp → Prop} (h : te σ H fun v H1 => ∃ x, v = .str x ∧ R (Its x) H1) : iStr te σ H R := h
theorem r_strE {z : Str} {P : Str → Prop} (h : P z) : ∃ x, V.str z = .str x ∧ P x := ⟨z, rfl, h⟩
theorem r_iList {K : PySem.W.Frag} {tl : TE} {σ : L2.St} {H : Hp} {R : It → Hp → Prop} (h : tl σ H fun x H1 => ∃ a, x = .ref a ∧ (∃ xs, SqL K H1 a xs) ∧ R (Itl K a) H1) : iList K tl σ H R := h
theorem r_listE {K : PySem.W.Frag} {H : Hp} {a : Addr} {xs : List V} {P : Addr → Prop} (hp : SqL K H a xs) (h : P a) : ∃ b, V.ref a = .ref b ∧ (∃ xs, SqL K H b xs) ∧ P b := ⟨a, rfl, ⟨xs, hp⟩, h⟩
theorem r_iRng1 {ta : TA} {σ : L2.St} {H : Hp} {R : It → Hp → Prop} (h : ta σ H fun vs H1 => ∃ j : Int, vs = [.int j] ∧ -(2 ^ 62) ≤ j ∧ j < 2 ^ 62 ∧ R (Itr 0 j.toNat) H1) : iRng1 ta σ H R := h
theorem r_rngE {j : Int} {P : Int → Prop} (h0 : -(2 ^ 62) ≤ j) (h1 : j < 2 ^ 62) (h : P j) : ∃ i : Int, [V.int j] = [.int i] ∧ -(2 ^ 62) ≤ i ∧ i < 2 ^ 62 ∧ P i := ⟨j, rfl, h0, h1, h⟩
/-! ### texts cut at a sign; in a written tuple -/
def rSplit : V → List V → Hp → VK → Prop := fun x xs H Q => ∃ a b, x = .str a ∧ xs = [.str b] ∧ (b.length == 0) = false ∧ a.length + 2 ≤ sizeLine ∧ rNewStrs (Txt.split a b) H Q
theorem pe_splitN {X : Cx} {E : Expr} {to te : TE} (hst : PE X E (tM1 (fun x xs H Q => ∃ a b, x = .str a ∧ xs = [.str b] ∧ (b.length == 0) = false ∧ a.length + 2 ≤ sizeLine ∧ rNewStrs (Txt.split a b) H Q) to te)) : PE X E (tM1 rSplit to te) := hst
section
variable {K : PySem.W.Frag} {σ : L2.St} {H : Hp} {Q : VK}
theorem r_m1 {r : V → List V → Hp → VK → Prop} {to te : TE} (h : to σ H fun x H1 => (∃ a, x = .str a) ∧ te σ H1 fun y H2 => r x [y] H2 Q) : tM1 r to te σ H Q := h
theorem r_isZ {z : Str} {P : Prop} (h : P) : (∃ a, V.str z = .str a) ∧ P := ⟨⟨z, rfl⟩, h⟩
theorem r_split {a b : Str} (hb : (b.length == 0) = false) (ha : a.length + 2 ≤ sizeLine) (h : ∀ p, H p = none → Q (.ref p) (upd H p (.lst ((Txt.split a b).map V.str)))) : rSplit (.str a) [.str b] H Q := ⟨a, b, rfl, rfl, hb, ha, h⟩
theorem r_inT {p : Addr} {x : V} {xs : List V} (hp : SqT K H p xs) (hx : flatV x = true) (ha : xs.all flatV = true) (h : Q (.bl (inV x xs)) H) : rIn K false x (.ref p) H Q := ⟨p, xs, rfl, .inr hp, hx, ha, h⟩
theorem r_inL {p : Addr} {x : V} {xs : List V} (hp : SqL K H p xs) (hx : flatV x = true) (ha : xs.all flatV = true) (h : Q (.bl (inV x xs)) H) : rIn K false x (.ref p) H Q := ⟨p, xs, rfl, .inl hp, hx, ha, h⟩
theorem r_slS {z : Str} {lo hi : Option Int} (hz : z.length ≤ sizeLine) (h : Q (.str (cutS z lo hi)) H) : rSlS (.str z) lo hi H Q := ⟨z, rfl, hz, h⟩
theorem r_sl {r : V → Option Int → Option Int → Hp → VK → Prop} {te : TE} {tl th : TO} (h : te σ H fun x H1 => tl σ H1 fun l H2 => th σ H2 fun u H3 => r x l u H3 Q) : tSl r te tl th σ H Q := h
theorem r_noPart {Q : Option Int → Hp → Prop} (h : Q none H) : tNoPart σ H Q := h
theorem r_part {t : TE} {Q : Option Int → Hp → Prop} (h : t σ H fun x H1 => ∃ i, x = .int i ∧ Q (some i) H1) : tPart t σ H Q := h
theorem r_partE {i : Int} {P : Int → Prop} (h : P i) : ∃ j, V.int i = .int j ∧ P j := ⟨i, rfl, h⟩
end
/-! ### rules that lean on the written part, with it told -/
theorem op_inK {X : Cx} (K : PySem.W.Frag) (h : X.K = K := by rfl) : OpR X (compareOp .In) (rIn K false) := h ▸ op_in_seq
theorem op_notInK {X : Cx} (K : PySem.W.Frag) (h : X.K = K := by rfl) : OpR X (compareOp .NotIn) (rIn K true) := h ▸ op_notIn_seq
theorem ix_listK {X : Cx} (K : PySem.W.Frag) (h : X.K = K := by rfl) : IxR X (rIxL K) := h ▸ ix_list
theorem ix_tupK {X : Cx} (K : PySem.W.Frag) (h : X.K = K := by rfl) : IxR X (rIxT K) := h ▸ ix_tup
theorem call_lenK {X : Cx} (K : PySem.W.Frag) (h : X.K = K := by rfl) : CallR X (.builtin "len") (rLenQ K) := h ▸ call_rLenQ
theorem call_isiK1 {X : Cx} (K : PySem.W.Frag) (h : X.K = K := by rfl) : CallR X (.builtin "isinstance") (rIsi K) := h ▸ call_isi
theorem call_isiK2 {X : Cx} (K : PySem.W.Frag) (h : X.K = K := by rfl) : CallR X (.builtin "isinstance") (rIsiT K) := h ▸ call_isiT
theorem call_allK {X : Cx} (K : PySem.W.Frag) (hc : X.calm = true := by rfl) (h : X.K = K := by rfl) : CallR X (.builtin "all") (rAll K) := h ▸ cr_all hc
theorem call_anyK {X : Cx} (K : PySem.W.Frag) (hc : X.calm = true := by rfl) (h : X.K = K := by rfl) : CallR X (.builtin "any") (rAny K) := h ▸ cr_any hc
theorem sl_listK {X : Cx} (K : PySem.W.Frag) (h : X.K = K := by rfl) : SlR X (rSlL K) := h ▸ sl_list
/-! ### two ways to one int, joined -/
theorem r_joinI {σ σ' : L2.St} {H : Hp} {Q : VK} {ta tb : TE} {p : Prop} [Decidable p] (P : Int → Prop) (k : ∀ c : Int, P c → Q (.int c) H) (h1 : ∀ Q' : VK, (∀ c : Int, P c → Q' (.int c) H) → p → ta σ H Q') (h2 : ∀ Q' : VK, (∀ c : Int, P c → Q' (.int c) H) → ¬ p → tb σ' H Q') : if decide p = true then ta σ H Q else tb σ' H Q :=
  r_iteD (h1 Q k) (h2 Q k)
/-! ### several names at once; slices; whiles -/
section
variable {K : PySem.W.Frag} {σ : L2.St} {H : Hp} {Q : VK} {D : Ends}
theorem r_par {i j : Nat} {ta : TA} (h : ta σ H fun vs H1 => ∃ v w, vs = [v, w] ∧ D.nx ((σ.set i (some v)).set j (some w)) H1) : tPar i j ta D σ H := h
theorem r_pair {v w : V} {P : V → V → Prop} (h : P v w) : ∃ a b, [v, w] = [a, b] ∧ P a b := ⟨v, w, rfl, h⟩
theorem r_par3 {i j l : Nat} {ta : TA} (h : ta σ H fun vs H1 => ∃ u v w, vs = [u, v, w] ∧ D.nx (((σ.set i (some u)).set j (some v)).set l (some w)) H1) : tPar3 i j l ta D σ H := h
theorem r_trip {u v w : V} {P : V → V → V → Prop} (h : P u v w) : ∃ a b c, [u, v, w] = [a, b, c] ∧ P a b c := ⟨u, v, w, rfl, h⟩
theorem r_gtup {n : Nat} {t : TGs} {p : Addr} {xs : List V} {Q : L2.St → Hp → Prop} (hp : SqT K H p xs) (hn : xs.length = n) (h : t xs σ H Q) : gTup K n t (.ref p) σ H Q := ⟨p, xs, rfl, hp, hn, h⟩
theorem r_gcons {t : TG} {u : TGs} {v : V} {r : List V} {Q : L2.St → Hp → Prop} (h : t v σ H fun σ' H' => u r σ' H' Q) : gCons t u (v :: r) σ H Q := ⟨v, r, rfl, h⟩
theorem r_gnil {Q : L2.St → Hp → Prop} (h : Q σ H) : gNil [] σ H Q := ⟨rfl, h⟩
theorem r_slL {p : Addr} {xs : List V} {lo hi : Option Int} (hp : SqL K H p xs) (h : ∀ q, H q = none → Q (.ref q) (upd H q (.lst (cutV xs lo hi)))) : rSlL K (.ref p) lo hi H Q := ⟨p, xs, rfl, hp, h⟩
theorem r_iTup {tl : TE} {R : It → Hp → Prop} (h : tl σ H fun x H1 => ∃ a, x = .ref a ∧ (∃ xs, SqT K H1 a xs) ∧ R (Itt K a) H1) : iTup K tl σ H R := h
theorem r_tupE {a : Addr} {xs : List V} {P : Addr → Prop} (hp : SqT K H a xs) (h : P a) : ∃ b, V.ref a = .ref b ∧ (∃ xs, SqT K H b xs) ∧ P b := ⟨a, rfl, ⟨xs, hp⟩, h⟩
end
theorem pg_tupK {X : Cx} (K : PySem.W.Frag) {T : Expr} {n : Nat} {t : TGs} (h : PG X T (gTup X.K n t)) (hK : X.K = K := by rfl) : PG X T (gTup K n t) := hK ▸ h
def rLenY : List V → Hp → VK → Prop := fun xs H Q => ∃ y : Array UInt8, xs = [.byt y] ∧ y.size ≤ sizeLine ∧ Q (.int y.size) H
theorem call_rLenY {X : Cx} : CallR X (.builtin "len") rLenY := fun pins s σ H xs us Q I r h => by
  obtain ⟨y, rfl, hz, q⟩ := h
  exact call_len pins s σ H _ us Q I r ⟨.byt y, y.size, rfl, (show y.size ≤ sizeLine ∧ y.size = y.size from ⟨hz, rfl⟩), q⟩
theorem r_rLenY {H : Hp} {Q : VK} {y : Array UInt8} (hz : y.size ≤ sizeLine) (h : Q (.int y.size) H) : rLenY [.byt y] H Q := ⟨y, rfl, hz, h⟩
/-! ### defs with keyword-only parameters; attributes -/
theorem funD_ok0 {P : Program} {w : World} {K : PySem.W.Frag} {mg : Str → Option Value} {base : Heap} {x qual : Str} {params : Arguments} {body : List Stmt} {scope : Scope} {dvs : List V} {kws : List (Str × V)} {f : Addr} {fd : FuncData} {N ps : List Str} {k : Nat} {sp : Sp}
    (F : FunD K x qual params body scope dvs kws f fd) (S : FnScope N ps scope) (len : ∀ vs H Q E, sp vs H Q E → vs.length = ps.length)
    (told : ∀ (cdv : Value) (A : Around) (outer : List Env) (s : Shared) (H : Hp) (vs : List V) (Q : VK) (E : XK), Room k (A.deeper (envOfC qual scope s.heap.objs.size f cdv)) → sp vs H Q E →
      ∃ t, PSs (cxOf CX0 P w K mg base N qual scope f cdv A outer s H E).nox body t ∧ t { nx := fun _ H' => Q .non H', rt := Q } (start N vs) H) : FnOk P w K mg base CX0 (k + 1) f fd ps sp :=
  F.ok S len fun cdv A outer s H vs Q E hr h => by
    obtain ⟨t, d, q⟩ := told cdv A outer s H vs Q E hr h
    exact ⟨t, d.nox, q⟩
section
variable {K : PySem.W.Frag} {σ : L2.St} {H : Hp} {Q : VK} {D : Ends}
theorem r_sfld {ta tv : TE} {f : Str} (h : tv σ H fun y H1 => ta σ H1 fun x H2 => ∃ a C dx fs, x = .ref a ∧ H2 a = some (.ins C dx fs) ∧ Cls K C ∧ NoAttr K C f ∧ fs.length < 1000 ∧ D.nx σ (upd H2 a (.ins C dx (putF f y fs)))) : sFld K ta tv f D σ H := h
theorem r_sfldE {p C dx : Addr} {fs : List (Str × V)} {f : Str} {R : Addr → Addr → Addr → List (Str × V) → Prop} (hp : H p = some (.ins C dx fs)) (hc : Cls K C) (hn : NoAttr K C f) (hl : fs.length < 1000) (h : R p C dx fs) :
    ∃ a C dx fs, V.ref p = .ref a ∧ H a = some (.ins C dx fs) ∧ Cls K C ∧ NoAttr K C f ∧ fs.length < 1000 ∧ R a C dx fs := ⟨p, C, dx, fs, rfl, hp, hc, hn, hl, h⟩
theorem r_fld {te : TE} {f : Str} (h : te σ H fun x H1 => ∃ a C dx fs v, x = .ref a ∧ H1 a = some (.ins C dx fs) ∧ Cls K C ∧ NoAttr K C f ∧ fs.lookup f = some v ∧ Q v H1) : tFld K te f σ H Q := h
theorem r_fldE {p C dx : Addr} {fs : List (Str × V)} {f : Str} {v : V} {R : V → Prop} (hp : H p = some (.ins C dx fs)) (hc : Cls K C) (hn : NoAttr K C f) (hl : fs.lookup f = some v) (h : R v) :
    ∃ a C dx fs v, V.ref p = .ref a ∧ H a = some (.ins C dx fs) ∧ Cls K C ∧ NoAttr K C f ∧ fs.lookup f = some v ∧ R v := ⟨p, C, dx, fs, v, rfl, hp, hc, hn, hl, h⟩
end
/-! ### f-strings; repr of an own object -/
def tJoin (ts : List TE) : TE := fun σ H Q => tJs ts Str.empty σ H fun out H1 => Q (.str out) H1
section
variable {K : PySem.W.Frag} {σ : L2.St} {H : Hp} {Q : VK}
theorem r_join {ts : List TE} (h : tJs ts Str.empty σ H fun out H1 => Q (.str out) H1) : tJoin ts σ H Q := h
theorem r_jnil {acc : Str} {Q : Str → Hp → Prop} (h : Q acc H) : tJs [] acc σ H Q := h
theorem r_jcons {t : TE} {ts : List TE} {acc : Str} {Q : Str → Hp → Prop} (h : t σ H fun x H1 => ∃ y : Str, x = .str y ∧ (acc ++ y).length ≤ sizeLine ∧ tJs ts (acc ++ y) σ H1 Q) : tJs (t :: ts) acc σ H Q := h
end
end Th
/-! Rk1: str.rpartition over the layer -/
namespace L2
open PySem PySem.Spec PyProof.Rows
section
variable {X : Cx} {o e : Expr} {to te : TE}
def rRpart : V → List V → Hp → VK → Prop := fun x xs H Q => ∃ a b, x = .str a ∧ xs = [.str b] ∧ (b.length == 0) = false ∧ a.length ≤ sizeLine ∧
    ∀ p, H p = none → Q (.ref p) (upd H p (.tup [.str (Txt.rpartition a b).1, .str (Txt.rpartition a b).2.1, .str (Txt.rpartition a b).2.2]))
theorem mt_rpart : MtR X "str.rpartition" rRpart := by
  intro pins s σ H x xs v us Q I rx rs h
  obtain ⟨a, b, rfl, rfl, hb, hz, h⟩ := h
  obtain ⟨t, rfl⟩ := rx
  cases rs with
  | cons r1 rs =>
    cases rs
    obtain ⟨u, rfl⟩ := r1
    refine call_meets F.slot_str_rpartition (typeIs_str _ _ _) F.entry_str_rpartition (F.args_str_rpartition_2 _ _) (meets_str_rpartition a b t u hb hz) ?_
    unfold Txt.rpartition at h
    revert h
    cases Builtin.Str.lastOccurrence a b 0 a.length with
    | none => intro h; exact laid_parts I h
    | some i => intro h; exact laid_parts I h
theorem pe_rpart {apos pos : Pos} (ho : PE X o to) (he : PE X e te) (hs : starEach [e] X.env = [(false, eval e X.env)] := by rfl) (hbase : attributeBase o "rpartition" X.env (eval o X.env) = eval o X.env := by rfl) (hline : (apos.endLine == pos.line) = true := by rfl) :
    PE X (.Call (.Attribute o "rpartition" apos) [e] [] pos) (tM1 rRpart to te) :=
  pe_m1 F.slot_str_rpartition F.type_str_rpartition mt_rpart ho he hs hbase hline
end
section
variable {X : Cx} {T id : String} {name : Str} {r : V → List V → Hp → VK → Prop} {o e : Expr} {es : List Expr} {to : TE} {t : TA}
theorem pe_bmK {apos cpos : Pos} (K : PySem.W.Frag) (pa : PlainAttrs T) (slot : Slot T name id) (hty : typeOf (.builtin id) = pure (.type "method_descriptor")) (hm : MtR X id r) (ho : PE X o to) (ha : PA X (e :: es) t)
    (hbase : attributeBase o name X.env (eval o X.env) = eval o X.env := by rfl)
    (hfew : ((backTo cpos (starEach (e :: es) X.env)).all (fun x => !x.1) && (backToKw cpos (keywordEach [] X.env)).all (fun x => x.1.isSome)
      && decide ((e :: es).length + ([] : List Keyword).length + (if ([] : List Keyword).isEmpty then 0 else 1) < 30)) = true := by rfl)
    (hline : (apos.endLine == cpos.line) = true := by rfl) (hs : starEach (e :: es) X.env = (false, eval e X.env) :: starEach es X.env := by rfl) (hplain : (backTo cpos (starEach es X.env)).any (·.1) = false := by rfl) (h : X.K = K := by rfl) :
    PE X (.Call (.Attribute o name apos) (e :: es) [] cpos) (tBM K T r to t) := h ▸ pe_bm pa slot hty hm ho ha hbase hfew hline hs hplain
end
section
variable {σ : L2.St} {H : Hp} {Q : VK} {td ty tx tv : TE} {D : Ends}
theorem r_dget (h : td σ H fun x H1 => ty σ H1 fun y H2 => ∃ a v, x = .ref a ∧ DGet H2 a y (some v) ∧ Q v H2) : tDGet td ty σ H Q := h
theorem r_din (h : ty σ H fun y H1 => td σ H1 fun x H2 => ∃ a o, x = .ref a ∧ DGet H2 a y o ∧ Q (.bl o.isSome) H2) : tDIn ty td σ H Q := h
theorem r_dnotin (h : ty σ H fun y H1 => td σ H1 fun x H2 => ∃ a o, x = .ref a ∧ DGet H2 a y o ∧ Q (.bl (!o.isSome)) H2) : tDNotIn ty td σ H Q := h
theorem r_dput (h : tv σ H fun v H1 => td σ H1 fun x H2 => ty σ H2 fun y H3 => ∃ a H4, x = .ref a ∧ DPut H3 a y v H4 ∧ D.nx σ H4) : sDPut td ty tv D σ H := h
theorem r_ddel (h : td σ H fun x H1 => ty σ H1 fun y H2 => ∃ a kvs k, x = .ref a ∧ H2 a = some (.dK kvs) ∧ y = kV k ∧ (valV kvs k).isSome = true ∧ D.nx σ (upd H2 a (.dK (dropK kvs k)))) : sDDel td ty D σ H := h
theorem r_dsetd (h : td σ H fun x H1 => ∃ a, x = .ref a ∧ IsD H1 a ∧ ty σ H1 fun y H2 => tx σ H2 fun z H3 => ∃ (kvs : List (Key × V)) (k : Key), H3 a = some (.dK kvs) ∧ y = kV k ∧ kvs.length < sizeLine ∧
    (∀ v, valV kvs k = some v → Q v H3) ∧ (valV kvs k = none → Q z (upd H3 a (.dK (putK kvs k z))))) : tDSetd td ty tx σ H Q := h
theorem r_rng2 {ta : TA} {R : It → Hp → Prop} (h : ta σ H fun vs H1 => ∃ i j : Int, vs = [.int i, .int j] ∧ (-(2 ^ 62) ≤ i ∧ i < 2 ^ 62 ∧ -(2 ^ 62) ≤ j ∧ j < 2 ^ 62) ∧ R (Itr i (j - i).toNat) H1) : iRng2 ta σ H R := h
theorem r_dnewK (h : ∀ p, H p = none → Q (.ref p) (upd H p (.dK []))) : tDNewK σ H Q := h
end
section
variable {J : It} {n : Nat} {G : Hp → Prop} {Y : Nat → Hp → V → Hp → Prop}
/-- a comprehension that makes a dict, over any walk -/
theorem dc_it (w : Walk J n G Y) {g : TG} {tt : TT} {tk tv : TE} {vs : List Nat} {σ : St} {H1 : Hp} {D : Addr} {Qd : Hp → Prop} (Pv : Nat → Hp → Prop) (h0 : Pv 0 (upd H1 D (.dK []))) (hG : ∀ i H, i ≤ n → Pv i H → G H)
    (hs : ∀ i x H H', i < n → Pv i H → Y i H x H' → g x (wipe σ vs) H' fun σ2 H2 => wipe σ2 vs = wipe σ vs ∧ tt σ2 H2 fun b H3 =>
      if b = true then tk σ2 H3 fun y H4 => tv σ2 H4 fun z H5 => ∃ kvs k, y = kV k ∧ H5 D = some (.dK kvs) ∧ kvs.length < sizeLine ∧ Pv (i + 1) (upd H5 D (.dK (putK kvs k z))) else Pv (i + 1) H3) (hd : ∀ H, Pv n H → Qd H) :
    ∃ W : Nat → Nat → Hp → Prop, (∃ m, W 0 m (upd H1 D (.dK []))) ∧ ∀ i m H, W i m H →
      (J.stop i H ∧ Qd H) ∨ (J.go i H ∧ ∃ Nx : Hp → Prop, (∀ H', Nx H' → ∃ m', m' < m ∧ W (i + 1) m' H') ∧ ∀ x H', J.yld i H x H' → g x (wipe σ vs) H' fun σ2 H2 => wipe σ2 vs = wipe σ vs ∧ tt σ2 H2 fun b H3 =>
        if b = true then tk σ2 H3 fun y H4 => tv σ2 H4 fun z H5 => ∃ kvs k, y = kV k ∧ H5 D = some (.dK kvs) ∧ kvs.length < sizeLine ∧ Nx (upd H5 D (.dK (putK kvs k z))) else Nx H3) := by
  refine ⟨fun i m H => m = n - i ∧ i ≤ n ∧ Pv i H, ⟨n, by simp, Nat.zero_le _, h0⟩, ?_⟩
  rintro i m H ⟨rfl, hi, p⟩
  have q := hG i H hi p
  by_cases hlt : i < n
  · refine .inr ⟨w.goes i H hlt q, Pv (i + 1), fun H' p' => ⟨n - (i + 1), by omega, rfl, hlt, p'⟩, fun x H' y => hs i x H H' hlt p (w.yields i H x H' hlt q y)⟩
  · have e : i = n := by omega
    subst e
    exact .inl ⟨w.stops H q, hd H p⟩
end
theorem pe_fldN {X : Cx} (K : PySem.W.Frag) {e : Expr} {f : Str} {pos : Pos} {ta : TE} (he : PE X e ta) (hb : attributeBase e f X.env (eval e X.env) = eval e X.env := by rfl) (h : X.K = K := by rfl) : PE X (.Attribute e f pos) (tFld K ta f) := h ▸ pe_fld he hb
end L2
/-! f(e, .., *y, k = v): a star among the arguments, and keywords -/
/-! Rk2: a dict comprehension assigned to a name -/
namespace L2
open PySem PySem.Spec PyProof.Rows
section
variable {X : Cx}
theorem ps_setDc {i : Nat} {y : Str} {py : Pos} {kx vx tg iter : Expr} {ifs : List Expr} {scope : Scope} {own : List (Str × Nat)} {pos spos : Pos} {wi : TI} {g : TG} {tt : TT} {tk tv : TE} (hc : X.calm = true) (hN : X.N.Nodup) (hy : X.N[i]? = some y) (hyl : X.env.scope.names.lookup y = some .local)
    (hsw : swapsWith (.DictComp kx vx [⟨tg, iter, ifs, 0⟩] scope pos) (some (.Name y py)) spos.line X.env = pure true) (hi : PI X tg iter wi) (ok : BlkOk X.N X.env.scope scope own)
    (hg : ∀ (s : Shared) (H : Hp) (C : Addr) (cl : List (Str × Addr)) (fp : List Addr), PG (X.blk s H scope (compEnvC scope cl C X.env) fp) tg g) (ht : ∀ (s : Shared) (H : Hp) (C : Addr) (cl : List (Str × Addr)) (fp : List Addr), PTs (X.blk s H scope (compEnvC scope cl C X.env) fp) ifs tt)
    (hk : ∀ (s : Shared) (H : Hp) (C : Addr) (cl : List (Str × Addr)) (fp : List Addr), PE (X.blk s H scope (compEnvC scope cl C X.env) fp) kx tk)
    (he : ∀ (s : Shared) (H : Hp) (C : Addr) (cl : List (Str × Addr)) (fp : List Addr), PE (X.blk s H scope (compEnvC scope cl C X.env) fp) vx tv) (hs : ∀ x, foldedSetIterable iter X.env x = pure x := by intro _; rfl) :
    PS X (.Assign [.Name y py] (.DictComp kx vx [⟨tg, iter, ifs, 0⟩] scope pos) spos) (tAsg (tDc wi g tt tk tv (own.map (·.2))) (gName i)) := by
  refine ⟨fun pins s σ H D I h => ?_⟩
  rw [exec_Assign_Name_used _ _ _ _ hsw]
  refine wpAny_bind (wpAny_standAt (wpAny_bind ?_))
  show wpAny _ X.A (do let _ ← comprehension (.DictComp kx vx [⟨tg, iter, ifs, 0⟩] scope pos) scope X.env (firstIterPos [⟨tg, iter, ifs, 0⟩] pos) newDict false (eval iter X.env) (some (assign (.Name y py) X.env))) _ _ s
  have h : tDc wi g tt tk tv (own.map (·.2)) σ H (fun x H1 => gName i x σ H1 D.nx) := h
  refine wpAny_bind (thn (dc_core (Qf := fun _ s' => SP X pins D .next s') hc hN I hi ok hg ht hk he hs h fun L C s' m H' I' q hn f => ?_) fun _ s' hq => wpAny_pure (wpAny_pure hq))
  show wpAny _ _ (assign (.Name y py) X.env (.ref L)) _ _ _
  refine wpAny_assign_Name (store_ok2 (v := V.ref L) I' hN hy (.inl hyl) rfl (fun s2 I2 ⟨a, sb, ha⟩ => ?_) (.inr hyl))
  obtain ⟨f0, f1, f2, f3, f4, f5⟩ := f
  have haC : C ≠ a := by
    rcases ha with z | z
    · rw [z]; exact f1
    · exact fun e => f4 y a z e.symm
  refine ⟨m, hn.sameBut sb haC, fun h3 sb3 => ?_⟩
  exact ⟨_, H', I2.turned (t' := s2.toks) (fun b o hb e => (sb3.2 b hb).trans e) f0 f1 f3 f4 f5, q⟩
theorem sw_trueD {kx vx : Expr} {gs : List Comprehension} {scope : Scope} {pos py : Pos} {y : Str} {l : Nat} {env : Env} (hk : env.scope.kind = .function) (hy : env.scope.names.lookup y = some .local) (hl : (py.line == pos.line) = true)
    (ha : (scope.names.any fun (n, k) => n == y && (k == .local || k == .cell)) = false) : swapsWith (.DictComp kx vx gs scope pos) (some (.Name y py)) l env = pure true := by
  have ky : env.kindOf y = some .local := hy
  have hb : env.blockKind = .function := by unfold Env.blockKind; rw [hk]; rfl
  unfold swapsWith
  simp only [hb, ky, ha, Expr.pos, hl]
  rfl
end
end L2
/-! != of lists by an own __eq__; == inside lists by an own __eq__ with both answers -/
namespace L2
open PySem PySem.Spec PyProof.Rows
section
variable {X : Cx} {n m : Nat} {D D' : Eqv}
theorem RcG.mono (h : RcG X n D) (hn : n ≤ m) : RcG X m D := fun A pins s σ H x y u v sb => h A pins s σ H x y u v (sb.mono hn)
end
end L2
/-! != of tuples whose items are equal, by their own __eq__ too -/
namespace L2
open PySem PySem.Spec PyProof.Rows
end L2
namespace L2
open PySem PySem.Spec PyProof.Rows
/-- xs[a:c] = ys, another list -/
def sLSl (to : TE) (tl th : TO) (tv : TE) : TS := fun D σ H => tv σ H fun v H1 => to σ H1 fun x H2 => tl σ H2 fun y H3 => th σ H3 fun z H4 =>
  ∃ l b xs ys a c, x = .ref l ∧ v = .ref b ∧ y = some a ∧ z = some c ∧ H4 l = some (.lst xs) ∧ H4 b = some (.lst ys) ∧ l ≠ b ∧ 0 ≤ a ∧ a ≤ c ∧ c ≤ (xs.length : Int) ∧ xs.length + ys.length ≤ sizeLine ∧
    D.nx σ (upd H4 l (.lst (xs.take a.toNat ++ ys ++ xs.drop c.toNat)))
theorem ps_lslice {X : Cx} {o value : Expr} {lo hi : Option Expr} {p2 pos' pos : Pos} {to tv : TE} {tl th : TO} (ho : PE X o to) (hl : PO X lo tl) (hh : PO X hi th) (hv : PE X value tv)
    (hs : swapsWith value (some (.Subscript o (.Slice lo hi none p2) pos')) pos.line X.env = pure false) :
    PS X (.Assign [.Subscript o (.Slice lo hi none p2) pos'] value pos) (sLSl to tl th tv) := by
  refine ⟨fun pins s σ H D I h => ?_⟩
  refine wpAny_Assign_Subscript (thn (hv.run pins s σ H _ I h) fun r s1 ⟨v, H1, I1, rv, q1⟩ => thn (ho.run pins s1 σ H1 _ I1 q1) fun u s2 ⟨x, H2, I2, rx, q2⟩ => ?_) hs
  refine wpAny_Slice (thn (hl.run pins s2 σ H2 _ I2 q2) fun vl s3 ⟨y, H3, I3, pl, q3⟩ => thn (hh.run pins s3 σ H3 _ I3 q3) fun vu s4 ⟨z, H4, I4, pu, q4⟩ => ?_)
  rw [evalPart_none]
  refine wpAny_pure ?_
  obtain ⟨l, b, xs, ys, a, c, rfl, rfl, rfl, rfl, gl, gb, ne, h0, hac, hc, hz, q⟩ := q4
  have I5 : Inv X pins σ H4 { s4 with heap := s4.heap.push { cls := .type "slice", data := .fields #[vl, vu, .none] } } := I4.kept (t' := s4.toks) fun b ob q => Heap.get?_push_of_some _ q
  obtain rfl : u = Value.ref l := rx
  obtain rfl : r = Value.ref b := rv
  refine set_slice I5 gl gb ne (Heap.IsSliceOf.new ..) ?_ ?_ h0 hac hc hz fun s6 I6 => ⟨σ, _, I6, q⟩
  · cases pl
    exact ⟨_, rfl⟩
  · cases pu
    exact ⟨_, rfl⟩
end L2
/-! text.encode("ascii") of a text whose signs are all below 128 -/
/-! f"{n:o}" and f"{n:06o}" of an int from 0 -/
/-! sum of bytes, bytes * int -/
namespace Bt
open PySem PySem.Spec PyProof.Rows L2 PySem.W
/-- the bytes as numbers -/
def nums (b : List UInt8) : List Int := b.map fun c => ((c.toNat : Nat) : Int)
end Bt
/-! list(b) of bytes -/
/-! == and != of lists whose items are compared by own __eq__ with both answers -/
namespace GQ
open PySem PySem.SeqAt
open AutoSeq1 (wpAny_loadPart')
open MeetsSeq MeetsSeq2 MeetsSeq3 SeqRoads2
/-- at each turn the two lists are read anew: N items each; the i-th two are compared, with the answer e i -/
def ListB (prog : Program) (w : World) (A : Around) (E : Value → Shared → Prop) (l b : Addr) (N : Nat) (e : Nat → Bool) (I : Nat → Shared → Prop) : Prop :=
  ∀ i s, I i s → ∃ (items items2 : Array Value) (n n2 : Nat), s.heap.get? l = some { cls := .type "list", data := .seq items n } ∧ s.heap.get? b = some { cls := .type "list", data := .seq items2 n2 } ∧ items.size = N ∧ items2.size = N ∧
    ∀ (h1 : i < items.size) (h2 : i < items2.size), wpAny (model prog w) A.in1 (eqBool items[i] items2[i]) (fun r s' => r = e i ∧ I (i + 1) s') E s
section
variable {prog : Program} {w : World} {A : Around} {R : Result → Shared → Prop}
theorem ne_loopB (l b : Addr) (N : Nat) (e : Nat → Bool) (I : Nat → Shared → Prop) (hl : ListB prog w A (fun e s' => R (.error e) s') l b N e I)
    (k : Nat) :
    ∀ i : Nat, N - i = k → i ≤ N → (∀ j s, I j s → R (.ok (.ret (.bool (!((List.range N).drop i).all e)))) s) → ∀ s, I i s →
      wpAny (model prog w) A.in1 (Builtin.«list.__eq__.loop» ⟨[.ref l, .ref b, rawInt i, rawInt 3], []⟩) (FinOf prog w A R) (fun e s' => R (.error e) s') s := by
  induction k with
  | zero =>
    intro i hk hi fin s h
    obtain ⟨items, items2, n, n2, hl1, hb1, hs1, hs2, _⟩ := hl _ _ h
    have hi' : i = N := by omega
    have hR := fin _ s h
    have hd : (List.range N).drop i = [] := by simp; omega
    rw [hd] at hR
    obtain ⟨hp, g, d, tk, os⟩ := s
    wp_walk using wpAny_loadPart' hl1, wpAny_loadPart' hb1
    have hi1 : items[((i : Nat) : Int).toNat]? = none := by simp; omega
    have hi2 : items2[((i : Nat) : Int).toNat]? = none := by simp; omega
    rw [hi1, hi2]
    wp_walk using wpAny_loadPart' hl1, wpAny_loadPart' hb1
    show R (.ok (.ret (.bool (items.size != items2.size)))) _
    rw [hs1, hs2]
    simpa using hR
  | succ k ih =>
    intro i hk hi fin s h
    obtain ⟨items, items2, n, n2, hl1, hb1, hs1, hs2, turn⟩ := hl _ _ h
    have hlt : i < items.size := by omega
    have hlt2 : i < items2.size := by omega
    have ht := turn hlt hlt2
    have hd : (List.range N).drop i = i :: (List.range N).drop (i + 1) := by simp [List.drop_eq_getElem_cons, (by omega : i < N)]
    rw [hd] at fin
    simp only [List.all_cons] at fin
    obtain ⟨hp, g, d, tk, os⟩ := s
    wp_walk using wpAny_loadPart' hl1, wpAny_loadPart' hb1
    have hi1 : items[((i : Nat) : Int).toNat]? = some items[i] := by simp [hlt]
    have hi2 : items2[((i : Nat) : Int).toNat]? = some items2[i] := by simp [hlt2]
    have hc : ((i : Int) + 1) = ((i + 1 : Nat) : Int) := by omega
    rw [hi1, hi2]
    refine wpAny_bind (wpAny_mono ht (fun r s2 h2 => ?_) fun _ _ x => x)
    obtain ⟨hr, h2⟩ := h2
    obtain ⟨its, its2, m, m2, gl, gb, gs1, gs2, _⟩ := hl _ _ h2
    cases he : e i with
    | true =>
      rw [he] at hr fin
      subst hr
      have hrec := ih (i + 1) (by omega) (by omega) (fun j s hj => by simpa using fin j s hj) s2 h2
      obtain ⟨hp2, g2, d2, tk2, os2⟩ := s2
      wp_walk
      rw [hc]
      exact ⟨plainId_quiet plain_eq_loop _, codeAny_builtin entry_eq_loop (by
        rw [Around.under_plainId plain_eq_loop _]
        exact hrec)⟩
    | false =>
      rw [he] at hr fin
      subst hr
      have hR := fin _ s2 h2
      obtain ⟨hp2, g2, d2, tk2, os2⟩ := s2
      wp_walk using wpAny_loadPart' gl, wpAny_loadPart' gb
      have hj1 : its[((i : Nat) : Int).toNat]? = some (its[i]'(by omega)) := by simp [(by omega : i < its.size)]
      have hj2 : its2[((i : Nat) : Int).toNat]? = some (its2[i]'(by omega)) := by simp [(by omega : i < its2.size)]
      rw [hj1, hj2]
      wp_walk
      simpa using hR
theorem list_neB (l b : Addr) (N : Nat) (e : Nat → Bool) (I : Nat → Shared → Prop) (hl : ListB prog w A (fun e s' => R (.error e) s') l b N e I)
    (fin : ∀ j s, I j s → R (.ok (.ret (.bool (!(List.range N).all e)))) s) {s : Shared} (h : I 0 s) :
    wpAny (model prog w) A.in1 (Builtin.«list.__ne__» ⟨[.ref l, .ref b], []⟩) (FinOf prog w A R) (fun e s' => R (.error e) s') s := by
  obtain ⟨items, items2, n, n2, hl1, hb1, hs1, hs2, _⟩ := hl _ _ h
  have hrec := ne_loopB (A := A) (R := R) l b N e I hl _ 0 rfl (Nat.zero_le _) fin s h
  obtain ⟨hp, g, d, tk, os⟩ := s
  have f3 := AutoSeq1.sub_list_list
  have hne : ¬ (items.size != items2.size) = true := by simp [hs1, hs2]
  wp_walk using wpAny_loadPart' hl1, wpAny_loadPart' hb1
  exact ⟨plainId_quiet plain_eq_loop _, codeAny_builtin entry_eq_loop (by
    rw [Around.under_plainId plain_eq_loop _]
    exact hrec)⟩
theorem list_neL (l b : Addr) (items items2 : Array Value) (n n2 : Nat) (hc0 : (items.size != items2.size) = true) {s : Shared} (hl : s.heap.get? l = some { cls := .type "list", data := .seq items n }) (hb : s.heap.get? b = some { cls := .type "list", data := .seq items2 n2 })
    (h : R (.ok (.ret (.bool true))) s) : wpAny (model prog w) A.in1 (Builtin.«list.__ne__» ⟨[.ref l, .ref b], []⟩) (FinOf prog w A R) (fun e s' => R (.error e) s') s := by
  obtain ⟨hp, g, d, tk, os⟩ := s
  have f3 := AutoSeq1.sub_list_list
  wp_walk using wpAny_loadPart' hl, wpAny_loadPart' hb
  exact h
end
section
variable {prog : Program} {w : World} {A : Around} {E : Value → Shared → Prop} {s : Shared}
theorem rc_neListB {l b : Addr} {N : Nat} {Q : Value → Shared → Prop} (hu : A.units < cLine) (e : Nat → Bool) (I : Nat → Shared → Prop) (hl : ListB prog w A E l b N e I)
    (fin : ∀ j s, I j s → Q (.bool (!(List.range N).all e)) s) (h : I 0 s) : wpAny (model prog w) A (richCompare .NotEq (.ref l) (.ref b)) Q E s := by
  obtain ⟨items, items2, n, n2, hl1, hb1, _, _, _⟩ := hl _ _ h
  refine wpAny_richCompare_same_room (op := .NotEq) ⟨_, hl1, rfl⟩ ⟨_, hb1, rfl⟩ F.slot_list_ne (call_here F.slot_list_ne ⟨_, hl1, rfl⟩ F.entry_list_ne (F.args_list_ne_2 _ _) ?_) hu
  exact list_neB (R := wants (fun v s' => v ≠ .notImplemented ∧ Q v s') E) l b N e I hl (fun j s' q => ⟨(fun x => nomatch x), fin j s' q⟩) h
theorem rc_neListL {l b : Addr} {items items2 : Array Value} {n n2 : Nat} {Q : Value → Shared → Prop} (hu : A.units < cLine) (hc0 : (items.size != items2.size) = true) (hl1 : s.heap.get? l = some { cls := .type "list", data := .seq items n }) (hb1 : s.heap.get? b = some { cls := .type "list", data := .seq items2 n2 })
    (h : Q (.bool true) s) : wpAny (model prog w) A (richCompare .NotEq (.ref l) (.ref b)) Q E s := by
  refine wpAny_richCompare_same_room (op := .NotEq) ⟨_, hl1, rfl⟩ ⟨_, hb1, rfl⟩ F.slot_list_ne (call_here F.slot_list_ne ⟨_, hl1, rfl⟩ F.entry_list_ne (F.args_list_ne_2 _ _) ?_) hu
  exact list_neL (R := wants (fun v s' => v ≠ .notImplemented ∧ Q v s') E) l b items items2 n n2 hc0 hl1 hb1 ⟨(fun x => nomatch x), h⟩
end
end GQ
namespace L2
open PySem PySem.Spec PyProof.Rows
end L2
/-! == of nested data with bytes: both answers -/
namespace GQ
open PySem PySem.SeqAt
open MeetsSeq
section
variable {A : Around} {s : Shared}
theorem sub_bytes_int : isSubtype (.type "int") (.type "bytes") = pure false := by rw [isSubtype_type]; kernel_rfl
theorem sub_int_bytes : isSubtype (.type "bytes") (.type "int") = pure false := by rw [isSubtype_type]; kernel_rfl
theorem sub_bytes_str : isSubtype (.type "str") (.type "bytes") = pure false := by rw [isSubtype_type]; kernel_rfl
theorem sub_str_bytes : isSubtype (.type "bytes") (.type "str") = pure false := by rw [isSubtype_type]; kernel_rfl
theorem dec_bi (b : Array UInt8) (t : Tok) (i : Int) (u : Tok) : Gives (Builtin.«bytes.__eq__» ⟨[.bytes b t, .int i u], []⟩) (.val (Value.notImplemented)) :=
  .of_wp fun M A E s Q h => by obtain ⟨hp, g, d, tk, os⟩ := s; have f1 := sub_bytes_int; wp_walk; exact ⟨_, rfl, h⟩
theorem dec_bs (b : Array UInt8) (t : Tok) (i : Str) (u : Tok) : Gives (Builtin.«bytes.__eq__» ⟨[.bytes b t, .str i u], []⟩) (.val (Value.notImplemented)) :=
  .of_wp fun M A E s Q h => by obtain ⟨hp, g, d, tk, os⟩ := s; have f1 := sub_bytes_str; wp_walk; exact ⟨_, rfl, h⟩
theorem dec_ib (i : Int) (u : Tok) (b : Array UInt8) (t : Tok) : Gives (Builtin.«int.__eq__» ⟨[.int i u, .bytes b t], []⟩) (.val (Value.notImplemented)) :=
  .of_wp fun M A E s Q h => by obtain ⟨hp, g, d, tk, os⟩ := s; wp_walk; exact ⟨_, rfl, h⟩
theorem dec_sb (i : Str) (u : Tok) (b : Array UInt8) (t : Tok) : Gives (Builtin.«str.__eq__» ⟨[.str i u, .bytes b t], []⟩) (.val (Value.notImplemented)) :=
  .of_wp fun M A E s Q h => by obtain ⟨hp, g, d, tk, os⟩ := s; wp_walk; exact ⟨_, rfl, h⟩
theorem tyB (s : Shared) (b : Array UInt8) (t : Tok) : s.TypeIs (.bytes b t) "bytes" := rfl
theorem slot_bytes_refl : Slot "bytes" (cmpInfo .Eq).2.2 "bytes.__eq__" := W.FB.slot_bytes_eq
theorem rc_bi (b : Array UInt8) (t : Tok) (i : Int) (u : Tok) : RcAt A s (.bytes b t) (.int i u) false := fun prog w E Q h =>
  rc_eq_decline_or (k := false) (tyB s b t) (typeIs_int s i u) (by decide) sub_bytes_int W.FB.slot_bytes_eq F.slot_int_eq_refl
    (fun _ hq => call_gives W.FB.slot_bytes_eq (tyB s b t) W.FB.entry_bytes_eq (W.FB.args_bytes_eq_2 _ _) (dec_bi b t i u) hq)
    (fun _ hq => call_gives F.slot_int_eq_refl (typeIs_int s i u) F.entry_int_eq (F.args_int_eq_2 _ _) (dec_ib i u b t) hq)
    (fun _ hq => wpAny_of_eq (rfl : isSame (.bytes b t) (.int i u) = pure false) hq) (.inl rfl) h
theorem rc_bs (b : Array UInt8) (t : Tok) (i : Str) (u : Tok) : RcAt A s (.bytes b t) (.str i u) false := fun prog w E Q h =>
  rc_eq_decline_or (k := false) (tyB s b t) (typeIs_str s i u) (by decide) sub_bytes_str W.FB.slot_bytes_eq F.slot_str_eq_refl
    (fun _ hq => call_gives W.FB.slot_bytes_eq (tyB s b t) W.FB.entry_bytes_eq (W.FB.args_bytes_eq_2 _ _) (dec_bs b t i u) hq)
    (fun _ hq => call_gives F.slot_str_eq_refl (typeIs_str s i u) F.entry_str_eq (F.args_str_eq_2 _ _) (dec_sb i u b t) hq)
    (fun _ hq => wpAny_of_eq (rfl : isSame (.bytes b t) (.str i u) = pure false) hq) (.inl rfl) h
theorem rc_ib (i : Int) (u : Tok) (b : Array UInt8) (t : Tok) : RcAt A s (.int i u) (.bytes b t) false := fun prog w E Q h =>
  rc_eq_decline_or (k := false) (typeIs_int s i u) (tyB s b t) (by decide) sub_int_bytes F.slot_int_eq slot_bytes_refl
    (fun _ hq => call_gives F.slot_int_eq (typeIs_int s i u) F.entry_int_eq (F.args_int_eq_2 _ _) (dec_ib i u b t) hq)
    (fun _ hq => call_gives slot_bytes_refl (tyB s b t) W.FB.entry_bytes_eq (W.FB.args_bytes_eq_2 _ _) (dec_bi b t i u) hq)
    (fun _ hq => wpAny_of_eq (rfl : isSame (.int i u) (.bytes b t) = pure false) hq) (.inl rfl) h
theorem rc_sb (i : Str) (u : Tok) (b : Array UInt8) (t : Tok) : RcAt A s (.str i u) (.bytes b t) false := fun prog w E Q h =>
  rc_eq_decline_or (k := false) (typeIs_str s i u) (tyB s b t) (by decide) sub_str_bytes F.slot_str_eq slot_bytes_refl
    (fun _ hq => call_gives F.slot_str_eq (typeIs_str s i u) F.entry_str_eq (F.args_str_eq_2 _ _) (dec_sb i u b t) hq)
    (fun _ hq => call_gives slot_bytes_refl (tyB s b t) W.FB.entry_bytes_eq (W.FB.args_bytes_eq_2 _ _) (dec_bs b t i u) hq)
    (fun _ hq => wpAny_of_eq (rfl : isSame (.str i u) (.bytes b t) = pure false) hq) (.inl rfl) h
theorem eq_bi (b : Array UInt8) (t : Tok) (i : Int) (u : Tok) : EqAt A s (.bytes b t) (.int i u) false := fun prog w E Q h => by
  unfold eqBool
  refine wpAny_holding ?_
  refine wpAny_ite_split (fun hab => absurd (eq_of_beq hab) nofun) (fun _ => ?_)
  exact wpAny_bind (rc_bi b t i u prog w E _ (wpAny_truthy_bool h))
theorem eq_bs (b : Array UInt8) (t : Tok) (i : Str) (u : Tok) : EqAt A s (.bytes b t) (.str i u) false := fun prog w E Q h => by
  unfold eqBool
  refine wpAny_holding ?_
  refine wpAny_ite_split (fun hab => absurd (eq_of_beq hab) nofun) (fun _ => ?_)
  exact wpAny_bind (rc_bs b t i u prog w E _ (wpAny_truthy_bool h))
theorem eq_ib (i : Int) (u : Tok) (b : Array UInt8) (t : Tok) : EqAt A s (.int i u) (.bytes b t) false := fun prog w E Q h => by
  unfold eqBool
  refine wpAny_holding ?_
  refine wpAny_ite_split (fun hab => absurd (eq_of_beq hab) nofun) (fun _ => ?_)
  exact wpAny_bind (rc_ib i u b t prog w E _ (wpAny_truthy_bool h))
theorem eq_sb (i : Str) (u : Tok) (b : Array UInt8) (t : Tok) : EqAt A s (.str i u) (.bytes b t) false := fun prog w E Q h => by
  unfold eqBool
  refine wpAny_holding ?_
  refine wpAny_ite_split (fun hab => absurd (eq_of_beq hab) nofun) (fun _ => ?_)
  exact wpAny_bind (rc_sb i u b t prog w E _ (wpAny_truthy_bool h))
theorem eq_bb (x y : Array UInt8) (t u : Tok) : EqAt A s (.bytes x t) (.bytes y u) (decide (x = y)) := fun prog w E Q h => PySem.W.eqBool_bytes (by
  rw [show decide (x.toList = y.toList) = decide (x = y) by rw [Bool.eq_iff_iff]; simp]
  exact h)
end
end GQ
namespace L2
open PySem PySem.Spec PyProof.Rows
/-- ints, texts, bytes -/
def fbV : V → Bool
  | .int _ => true
  | .str _ => true
  | .byt _ => true
  | _ => false
def eqFB : V → V → Bool
  | .int i, .int j => i == j
  | .str a, .str b => a == b
  | .byt x, .byt y => decide (x = y)
  | _, _ => false
theorem eqAt_fb {A : Around} {s : Shared} {u v : Value} : ∀ {x y : V}, fbV x = true → fbV y = true → RelV x u → RelV y v → SeqAt.EqAt A s u v (eqFB x y)
  | .int i, .int j, _, _, rx, ry => by
    obtain ⟨t, rfl⟩ := (show ∃ t, u = Value.int i t from rx)
    obtain ⟨t', rfl⟩ := (show ∃ t, v = Value.int j t from ry)
    exact SeqAt.EqAt.int_int _ _ _ _
  | .int i, .str j, _, _, rx, ry => by
    obtain ⟨t, rfl⟩ := (show ∃ t, u = Value.int i t from rx)
    obtain ⟨t', rfl⟩ := (show ∃ t, v = Value.str j t from ry)
    exact SeqAt.EqAt.int_str _ _ _ _
  | .int i, .byt j, _, _, rx, ry => by
    obtain ⟨t, rfl⟩ := (show ∃ t, u = Value.int i t from rx)
    obtain ⟨t', rfl⟩ := (show ∃ t, v = Value.bytes j t from ry)
    exact GQ.eq_ib _ _ _ _
  | .str i, .int j, _, _, rx, ry => by
    obtain ⟨t, rfl⟩ := (show ∃ t, u = Value.str i t from rx)
    obtain ⟨t', rfl⟩ := (show ∃ t, v = Value.int j t from ry)
    exact SeqAt.EqAt.str_int _ _ _ _
  | .str i, .str j, _, _, rx, ry => by
    obtain ⟨t, rfl⟩ := (show ∃ t, u = Value.str i t from rx)
    obtain ⟨t', rfl⟩ := (show ∃ t, v = Value.str j t from ry)
    exact SeqAt.EqAt.str_str _ _ _ _
  | .str i, .byt j, _, _, rx, ry => by
    obtain ⟨t, rfl⟩ := (show ∃ t, u = Value.str i t from rx)
    obtain ⟨t', rfl⟩ := (show ∃ t, v = Value.bytes j t from ry)
    exact GQ.eq_sb _ _ _ _
  | .byt i, .int j, _, _, rx, ry => by
    obtain ⟨t, rfl⟩ := (show ∃ t, u = Value.bytes i t from rx)
    obtain ⟨t', rfl⟩ := (show ∃ t, v = Value.int j t from ry)
    exact GQ.eq_bi _ _ _ _
  | .byt i, .str j, _, _, rx, ry => by
    obtain ⟨t, rfl⟩ := (show ∃ t, u = Value.bytes i t from rx)
    obtain ⟨t', rfl⟩ := (show ∃ t, v = Value.str j t from ry)
    exact GQ.eq_bs _ _ _ _
  | .byt i, .byt j, _, _, rx, ry => by
    obtain ⟨t, rfl⟩ := (show ∃ t, u = Value.bytes i t from rx)
    obtain ⟨t', rfl⟩ := (show ∃ t, v = Value.bytes j t from ry)
    exact GQ.eq_bb _ _ _ _
/-- how two values compare, with the answer -/
abbrev EqvA := V → V → Bool → Hp → Prop
def EqA (K : PySem.W.Frag) (n : Nat) (D : EqvA) : Prop :=
  ∀ {X : Cx} {pins : List (Addr × Obj)} {σ : St} {H : Hp} {s : Shared} {A : Around}, X.K = K → Inv X pins σ H s → A.units + n < cLine → ∀ {x y : V} {b : Bool} {u v : Value}, RelV x u → RelV y v → D x y b H → SeqAt.EqAt A s u v b ∧ (x = y → b = true)
def AFlat : EqvA := fun x y b _ => fbV x = true ∧ fbV y = true ∧ b = eqFB x y
def allE (n m : Nat) (e : Nat → Bool) : Bool := (List.range (min n m)).all e && n == m
def ATup (K : PySem.W.Frag) (D : EqvA) : EqvA := fun x y b H => ∃ p q xs ys e, x = .ref p ∧ y = .ref q ∧ SqT K H p xs ∧ SqT K H q ys ∧ (∀ (i : Nat) x y, xs[i]? = some x → ys[i]? = some y → D x y (e i) H) ∧ b = allE xs.length ys.length e
def AOr (D E : EqvA) : EqvA := fun x y b H => D x y b H ∨ E x y b H
theorem eqFB_self : ∀ {x : V}, fbV x = true → eqFB x x = true
  | .int _, _ => beq_self_eq_true _
  | .str _, _ => beq_self_eq_true _
  | .byt _, _ => decide_eq_true rfl
theorem eqA_flat {K : PySem.W.Frag} : EqA K 0 AFlat := fun _ _ _ _ _ _ _ _ rx ry h => by
  obtain ⟨h1, h2, rfl⟩ := h
  exact ⟨eqAt_fb h1 h2 rx ry, fun e => e ▸ eqFB_self h1⟩
theorem EqA.or {K : PySem.W.Frag} {n m : Nat} {D E : EqvA} (h : EqA K n D) (g : EqA K m E) (hn : n ≤ m) : EqA K m (AOr D E) := fun hK I hu _ _ _ _ _ rx ry d =>
  d.elim (fun d => h hK I (by omega) rx ry d) fun d => g hK I hu rx ry d
theorem vals_at {H : Hp} {xs : List V} {its : List Value} (r : Vals xs its) {i : Nat} (h : i < its.toArray.size) : ∃ x, xs[i]? = some x ∧ RelV x its.toArray[i] := by
  have g1 : its[i]? = some its.toArray[i] := by
    have h1' : i < its.length := by simpa using h
    rw [List.getElem?_eq_getElem h1'] <;> simp
  have k1 : i < xs.length := by rw [r.length]; simpa using h
  obtain ⟨u, hu, ru⟩ := r.get (List.getElem?_eq_getElem k1)
  rw [g1] at hu
  cases hu
  exact ⟨_, List.getElem?_eq_getElem k1, ru⟩
theorem rcA_tup {X : Cx} {K : PySem.W.Frag} {n : Nat} {D : EqvA} (h : EqA K n D) {pins : List (Addr × Obj)} {σ : St} {H : Hp} {s : Shared} {A : Around} (hK : X.K = K) (I : Inv X pins σ H s) (hu : A.units + (n + 1) < cLine) {p q : Addr} {xs ys : List V} {e : Nat → Bool} (hp : SqT K H p xs) (hq : SqT K H q ys)
    (d : ∀ (i : Nat) x y, xs[i]? = some x → ys[i]? = some y → D x y (e i) H) : SeqAt.RcAt A s (.ref p) (.ref q) (allE xs.length ys.length e) := by
  subst hK
  obtain ⟨its, r1, p1, _⟩ := I.tuple hp
  obtain ⟨its2, r2, p2, _⟩ := I.tuple hq
  have g := SeqAt.RcAt.tuples (A := A) (e := e) p1 p2 (by omega) (fun k k1 k2 => by
    obtain ⟨x, hx, rx⟩ := vals_at (H := H) r1 k1
    obtain ⟨y, hy, ry⟩ := vals_at (H := H) r2 k2
    exact (h rfl I (show A.in1.units + n < cLine from by show A.units + 1 + n < cLine; omega) rx ry (d k x y hx hy)).1)
  rw [List.size_toArray, List.size_toArray, ← r1.length, ← r2.length] at g
  exact g
theorem allE_true {n : Nat} {e : Nat → Bool} (h : ∀ i, i < n → e i = true) : allE n n e = true := by
  unfold allE
  rw [Nat.min_self, beq_self_eq_true, Bool.and_true, List.all_eq_true]
  exact fun i hi => h i (List.mem_range.mp hi)
theorem eqA_tup {K : PySem.W.Frag} {n : Nat} {D : EqvA} (h : EqA K n D) : EqA K (n + 1) (ATup K D) := fun hK I hu x y b u v rx ry d => by
  obtain ⟨p, q, xs, ys, e, rfl, rfl, hp, hq, d, rfl⟩ := d
  cases (show u = Value.ref p from rx)
  cases (show v = Value.ref q from ry)
  have same : p = q → allE xs.length ys.length e = true := fun hpq => by
    subst hpq hK
    have exy := I.tuple_inj hp hq
    subst exy
    obtain ⟨its, r1, p1, _⟩ := I.tuple hp
    refine allE_true fun i hi => ?_
    have hx : xs[i]? = some xs[i] := List.getElem?_eq_getElem hi
    obtain ⟨u, hu', ru⟩ := r1.get hx
    exact (h rfl I (A := _) (show Around.units ‹Around› + n < cLine from by omega) ru ru (d i _ _ hx hx)).2 rfl
  by_cases hpq : p = q
  · refine ⟨?_, fun _ => same hpq⟩
    rw [same hpq, hpq]
    exact SeqAt.EqAt.same _
  · exact ⟨SeqAt.EqAt.of_refs hpq (rcA_tup h hK I hu hp hq d), fun e => absurd (V.ref.inj e) hpq⟩
/-- == of two tuples -/
def rEqAT (K : PySem.W.Frag) (D : EqvA) : R2 := fun x y H Q => ∃ p q xs ys e, x = .ref p ∧ y = .ref q ∧ SqT K H p xs ∧ SqT K H q ys ∧ (∀ (i : Nat) x y, xs[i]? = some x → ys[i]? = some y → D x y (e i) H) ∧ Q (.bl (allE xs.length ys.length e)) H
/-- == of two lists -/
def rEqAL (K : PySem.W.Frag) (D : EqvA) : R2 := fun x y H Q => ∃ p q xs ys e, x = .ref p ∧ y = .ref q ∧ SqL K H p xs ∧ SqL K H q ys ∧ (∀ (i : Nat) x y, xs[i]? = some x → ys[i]? = some y → D x y (e i) H) ∧ Q (.bl (allE xs.length ys.length e)) H
section
variable {X : Cx} {n : Nat} {D : EqvA}
theorem op_eqAT (K : PySem.W.Frag) (h : EqA K n D) (hu : X.A.units + (n + 1) < cLine) (hK : X.K = K := by rfl) : OpR X (compareOp .Eq) (rEqAT K D) := by
  intro pins s σ H x y v u Q I rx ry hq
  obtain ⟨p, q, xs, ys, e, rfl, rfl, h1, h2, d, q⟩ := hq
  cases (show v = Value.ref p from rx)
  cases (show u = Value.ref _ from ry)
  exact rcA_tup h hK I hu h1 h2 d X.prog X.w _ _ ⟨.bl _, H, I, rfl, q⟩
theorem op_eqAL (K : PySem.W.Frag) (h : EqA K n D) (hu : X.A.units + (n + 1) < cLine) (hK : X.K = K := by rfl) : OpR X (compareOp .Eq) (rEqAL K D) := by
  intro pins s σ H x y v u Q I rx ry hq
  obtain ⟨p, r, xs, ys, e, rfl, rfl, h1, h2, d, q⟩ := hq
  cases (show v = Value.ref p from rx)
  cases (show u = Value.ref _ from ry)
  subst hK
  obtain ⟨its, r1, ⟨o1, m1, e1, c1, _, d1⟩, _⟩ := I.list h1
  obtain ⟨its2, r2, ⟨o2, m2, e2, c2, _, d2⟩, _⟩ := I.list h2
  by_cases hl : its.toArray.size = its2.toArray.size
  · have g := SeqAt.RcAt.lists (A := X.A) (e := e) ⟨o1, e1, c1, m1, d1⟩ ⟨o2, e2, c2, m2, d2⟩ hl (by omega) (fun k k1 k2 => by
      obtain ⟨x, hx, rx⟩ := vals_at (H := H) r1 k1
      obtain ⟨y, hy, ry⟩ := vals_at (H := H) r2 k2
      exact (h rfl I (show X.A.in1.units + n < cLine from by show X.A.units + 1 + n < cLine; omega) rx ry (d k x y hx hy)).1)
    refine g X.prog X.w _ _ ⟨.bl (allE xs.length ys.length e), H, I, ?_, q⟩
    show Value.bool _ = Value.bool _
    rw [List.size_toArray, List.size_toArray, ← r1.length, ← r2.length] at hl
    rw [List.size_toArray, ← r1.length]
    unfold allE
    rw [← hl, Nat.min_self, beq_self_eq_true, Bool.and_true]
  · have hn : xs.length ≠ ys.length := by rw [List.size_toArray, List.size_toArray, ← r1.length, ← r2.length] at hl; exact hl
    refine SeqAt.RcAt.lists_lengths (A := X.A) (items := its.toArray) (items2 := its2.toArray) ⟨o1, e1, c1, m1, d1⟩ ⟨o2, e2, c2, m2, d2⟩ (by simpa using hl) (by omega) X.prog X.w _ _ ⟨.bl (allE xs.length ys.length e), H, I, ?_, q⟩
    show Value.bool _ = Value.bool _
    unfold allE
    rw [show (xs.length == ys.length) = false from beq_eq_false_iff_ne.mpr hn, Bool.and_false]
end
end L2
namespace Th
open PySem PySem.Spec PyProof.Rows L2
/-- the goal that a head by facts leaves, from the law's promise -/
theorem walkGE {l : PySem.W.OpenLaw} {n k : Nat} {q : Program} {loose : List Str} {XP : (Str → Option Value) → Heap → Prop} {YP : World → Heap → Prop} {d : DefRec} {sp : World → PySem.W.Frag → Sp} {x : Str}
    (hn : l.most = some n) (hn2 : n ≤ sizeLine) (hdf : d.params.defaults = []) (room : Room k callerA)
    (F : ∀ (w : World) (mg : Str → Option Value) (fa : Addr) (h : Heap), YP w h → h.Ns mainGlobals mg → mg d.name = some (.ref fa) →
      ∃ K : PySem.W.Frag, K.In h ∧ ∃ fd : FuncData, (∀ (s : Shared) (u : Value), BindsTo s fd ⟨[u], []⟩ [(x, u)]) ∧ ∀ base : Heap, K.In base → base.Ns mainGlobals mg → FnG l.prog w K mg base k fa fd [x] (sp w K))
    (hsp : ∀ (w : World) (K : PySem.W.Frag) (H : Hp) (a : Addr) (ns : List Int), ns.length ≤ n → Only H → SqL K H a (ns.map V.int) → sp w K [.ref a] H (fun v _ => v = .bl true) fun _ _ _ => False) :
    PySem.W.WalkO q loose XP YP l.row.toRowW d [] (fun f vs => PySem.call f vs) := by
  apply Att.attach_call hn hdf
  intro w s₀ s₁ mg mb fa o pm cd doc a vs ns G Y ho hd hcd hmg hobj hints hlen hg
  obtain ⟨K, KX, fd, bnd, every⟩ := F w mg fa _ Y G.T.g hmg
  exact lawG KX G.T.g G.T.b G.T.builtins G.T.nolimit hg hobj hints (Nat.le_trans hlen hn2) room every bnd (fun H only sq => hsp w K H a ns hlen only sq)
end Th
namespace Th
open PySem PySem.Spec PyProof.Rows L2
local macro_rules | `(tactic| walk_at "lk") => `(tactic| first
  | assumption
  | exact upd_same
  | (refine upd_old (by assumption) ?_; walk_at "lk")
  | (refine upd_diff (by assumption) ?_; walk_at "lk")
  | (refine upd_diff (Ne.symm (by assumption)) ?_; walk_at "lk"))
local macro_rules | `(tactic| walk_at "cnd") => `(tactic| first
  | omega
  | (refine ⟨by omega, by omega⟩)
  | (refine ⟨by omega, by omega, by omega⟩)
  | (refine .inl ⟨by omega, by omega⟩)
  | (refine .inr ⟨by omega, by omega⟩)
  | (exact (show CPow _ _ from ⟨by decide, by decide, by omega⟩))
  | decide +kernel
  | (unfold CMulW; decide +kernel)
  | (exact wide_div (b := 64) (by omega) (by omega) (by decide) (by decide)))
local macro_rules | `(tactic| walk_at "rd1") => `(tactic| first
  | (with_reducible refine r_seq ?_)
  | (with_reducible refine r_asg ?_)
  | (with_reducible refine r_ret ?_)
  | (with_reducible refine r_if ?_)
  | (with_reducible refine r_gname ?_)
  | ((with_reducible refine' r_var ?hv ?_); (case hv => exact rfl))
  | (with_reducible refine r_c ?_)
  | (with_reducible refine r_op ?_)
  | (with_reducible refine r_I0 ?_)
  | ((with_reducible refine r_I ?hc ?_); (case hc => walk_at "cnd"))
  | (with_reducible refine r_test ?_)
  | (with_reducible refine r_tB ?_)
  | (with_reducible refine r_bl ?_)
  | (with_reducible refine r_not ?_)
  | (with_reducible refine r_and ?_)
  | (with_reducible refine r_or ?_)
  | (with_reducible refine r_ifE ?_)
  | (with_reducible refine r_notV ?_)
  | (with_reducible refine r_andV ?_)
  | (with_reducible refine r_orV ?_)
  | (with_reducible refine r_chain ?_)
  | (with_reducible refine r_cb ?_)
  | (with_reducible refine r_call ?_)
  | (with_reducible refine r_callN ?_)
  | (with_reducible refine r_nil ?_)
  | (with_reducible refine r_dget ?_)
  | ((with_reducible refine r_dnewK ?_); (intro p hp))
  | (with_reducible refine r_din ?_)
  | (with_reducible refine r_dnotin ?_)
  | (with_reducible refine r_dput ?_)
  | (with_reducible refine r_ddel ?_)
  | (with_reducible refine r_dsetd ?_)
  | (with_reducible refine r_rng2 ?_)
  | (with_reducible refine r_cons ?_)
  | ((with_reducible refine r_lst ?_))
  | ((with_reducible refine r_tup ?_))
  | ((with_reducible refine r_new ?_ ?_); (exact Nat.le_of_ble_eq_true rfl); (intro p hp))
  | (with_reducible refine r_rInt1 ?_)
  | (with_reducible refine r_rIntB ?_)
  | (with_reducible refine r_rAbs ?_)
  | (with_reducible refine r_rMin2 ?_)
  | (with_reducible refine r_rMax2 ?_)
  | ((with_reducible refine r_rLenZ ?hz ?_); (case hz => first | assumption | exact Nat.le_of_ble_eq_true rfl | (refine Nat.le_trans ?_ (by decide : 100000 ≤ sizeLine); omega)))
  | ((with_reducible refine r_addZ ?hz ?_); (case hz => (refine Nat.le_trans ?_ (by decide : 100000 ≤ sizeLine); first | omega | (simp only [Str.length] at *; simp; omega))))
  | ((with_reducible refine r_mulZ ?hz ?h0 ?h1 ?_); (case hz => first | omega | exact Nat.le_of_ble_eq_true rfl); (case h0 => omega); (case h1 => omega))
  | ((with_reducible refine' r_rLenQ ?h1 ?_); (case h1 => first | (exact .inl (by assumption)) | (exact .inr (by assumption)) | (exact .inl (SqL.of (by walk_at "lk"))) | (exact .inr (SqT.of (by walk_at "lk")))))
  | ((with_reducible refine r_eq ?hs ?_); (case hs => exact rfl))
  | ((with_reducible refine r_ne ?hs ?_); (case hs => exact rfl))
  | (with_reducible refine r_inC ?_)
  | ((with_reducible refine' r_cat ?h1 ?h2 ?h3 ?_); (case h1 => walk_at "lk"); (case h2 => walk_at "lk"); (case h3 => exact Nat.le_of_ble_eq_true rfl); (intro p hp))
  | ((with_reducible refine' r_rep ?h1 ?h2 ?h3 ?h4 ?_); (case h1 => walk_at "lk"); (case h2 => omega); (case h3 => omega); (case h4 => exact Nat.le_of_ble_eq_true rfl); (intro p hp))
  | ((with_reducible refine' r_append ?h1 ?h2 ?_); (case h1 => walk_at "lk"); (case h2 => first | exact (show _ + 1 ≤ sizeLine from Nat.le_of_ble_eq_true rfl) | exact Nat.lt_of_le_of_lt (by omega : _ ≤ 100000) (by decide)))
  | (with_reducible refine r_bm ?_)
  | ((with_reducible refine' r_tyL ?h1 ?_); (case h1 => walk_at "lk"))
  | ((with_reducible refine' r_ixL ?h1 ?h2 ?_); (case h1 => first | assumption | exact SqL.of (by walk_at "lk")); (case h2 => exact rfl))
  | ((with_reducible refine' r_ixT ?h1 ?h2 ?_); (case h1 => first | assumption | exact SqT.of (by walk_at "lk")); (case h2 => exact rfl))
  | (with_reducible refine r_gsub ?_)
  | ((with_reducible refine' r_setL ?h1 ?h2 ?_); (case h1 => walk_at "lk"); (case h2 => exact rfl))
  | (with_reducible refine r_un ?_)
  | (with_reducible refine r_neg ?_)
  | (with_reducible refine r_iteT ?_)
  | (with_reducible refine r_iteNT ?_)
  | (with_reducible refine r_iteNF ?_)
  | (with_reducible refine r_iteF ?_)
  | (with_reducible refine r_next ?_)
  | (with_reducible refine r_drop ?_)
  | (with_reducible refine r_cont ?_)
  | (with_reducible refine r_brk ?_))
local macro_rules | `(tactic| walk_at "ty") => `(tactic| first
  | assumption
  | exact .base (.int _)
  | exact .base (.str _)
  | exact .base (.bl _)
  | exact .base .non
  | exact .byt _
  | exact .base (.lst (by walk_at "lk"))
  | exact .base (.tup (by walk_at "lk")))
local macro_rules | `(tactic| walk_at "rd2") => `(tactic| first
  | walk_at "rd1"
  | ((with_reducible refine' r_isi true ?ht ?hk ?_); (case ht => walk_at "ty"); (case hk => first | assumption | decide +kernel))
  | ((with_reducible refine' r_isi false ?ht ?hk ?_); (case ht => walk_at "ty"); (case hk => first | assumption | decide +kernel))
  | ((with_reducible refine' r_isiT2 true true ?hT ?ht ?hk ?hk2 ?_); (case hT => walk_at "lk"); (case ht => walk_at "ty"); (case hk => decide +kernel); (case hk2 => decide +kernel))
  | ((with_reducible refine' r_isiT2 true false ?hT ?ht ?hk ?hk2 ?_); (case hT => walk_at "lk"); (case ht => walk_at "ty"); (case hk => decide +kernel); (case hk2 => decide +kernel))
  | ((with_reducible refine' r_isiT2 false true ?hT ?ht ?hk ?hk2 ?_); (case hT => walk_at "lk"); (case ht => walk_at "ty"); (case hk => decide +kernel); (case hk2 => decide +kernel))
  | ((with_reducible refine' r_isiT2 false false ?hT ?ht ?hk ?hk2 ?_); (case hT => walk_at "lk"); (case ht => walk_at "ty"); (case hk => decide +kernel); (case hk2 => decide +kernel))
  | (with_reducible refine r_iteNT ?_)
  | ((show (if (!true) = true then _ else _)); refine r_iteNT ?_)
  | (with_reducible refine r_r1 ?_)
  | (with_reducible refine r_maks ?_)
  | (with_reducible refine r_sfld ?_)
  | ((with_reducible refine' r_sfldE ?h1 ?h2 ?h3 ?h4 ?_); (case h1 => walk_at "lk"); (case h2 => assumption); (case h3 => assumption); (case h4 => exact (show _ + 1 ≤ 1000 from Nat.le_of_ble_eq_true rfl)))
  | (with_reducible refine r_fld ?_)
  | (with_reducible refine r_join ?_)
  | (with_reducible refine r_jcons ?_)
  | (with_reducible refine r_jnil ?_)
  | ((with_reducible refine r_rLenY ?hz ?_); (case hz => first | assumption | (refine Nat.le_trans ?_ (by decide : 100000 ≤ sizeLine); omega)))
  | (with_reducible refine r_par ?_)
  | (with_reducible refine r_pair ?_)
  | (with_reducible refine r_par3 ?_)
  | (with_reducible refine r_trip ?_)
  | ((with_reducible refine' r_gtup ?h1 ?h2 ?_); (case h1 => first | assumption | exact SqT.of (by walk_at "lk")); (case h2 => exact rfl))
  | (with_reducible refine r_gcons ?_)
  | (with_reducible refine r_gnil ?_)
  | ((with_reducible refine' r_slL ?h1 ?_); (case h1 => first | assumption | exact SqL.of (by walk_at "lk")); (intro p hp))
  | (with_reducible refine r_iTup ?_)
  | ((with_reducible refine' r_tupE ?h1 ?_); (case h1 => first | assumption | exact SqT.of (by walk_at "lk")))
  | (with_reducible refine r_m1 ?_)
  | (with_reducible refine r_isZ ?_)
  | (with_reducible refine r_sl ?_)
  | (with_reducible refine r_noPart ?_)
  | (with_reducible refine r_part ?_)
  | (with_reducible refine r_partE ?_)
  | ((with_reducible refine r_slS ?hz ?_); (case hz => first | assumption | (refine Nat.le_trans ?_ (by decide : 100000 ≤ sizeLine); omega)))
  | ((with_reducible refine' r_inT ?h1 ?h2 ?h3 ?_); (case h1 => first | assumption | (exact SqT.of (by walk_at "lk"))); (case h2 => exact rfl); (case h3 => exact rfl))
  | ((with_reducible refine' r_inL ?h1 ?h2 ?h3 ?_); (case h1 => first | assumption | (exact SqL.of (by walk_at "lk"))); (case h2 => exact rfl); (case h3 => exact rfl))
  | (with_reducible refine r_lc ?_)
  | (with_reducible refine r_for ?_)
  | (with_reducible refine r_iStr ?_)
  | (with_reducible refine r_strE ?_)
  | (with_reducible refine r_iList ?_)
  | ((with_reducible refine' r_listE ?h1 ?_); (case h1 => first | assumption | exact SqL.of (by walk_at "lk")))
  | (with_reducible refine r_iRng1 ?_)
  | ((with_reducible refine' r_rngE ?h0 ?h1 ?_); (case h0 => first | omega | (split <;> omega)); (case h1 => first | omega | (split <;> omega))))
local macro_rules | `(tactic| walk_at "rd") => `(tactic| (repeat walk_at "rd2"))
local macro_rules | `(tactic| walk_at "st") => `(tactic| (repeat (first
  | (with_reducible refine r_gname ?_)
  | (with_reducible refine r_next ?_)
  | (with_reducible refine r_seq ?_)
  | (with_reducible refine r_asg ?_)
  | (with_reducible refine r_ret ?_)
  | (with_reducible refine r_for ?_)
  | (with_reducible refine r_iRng1 ?_)
  | (with_reducible refine r_iList ?_)
  | (with_reducible refine r_cons ?_)
  | (with_reducible refine r_par ?_)
  | (with_reducible refine r_par3 ?_))))
def topS (i : Nat) : Stmt := PySem.Challenge.pw_tarhouse_k32_houses_compared.main.body.getD i (.Pass ⟨0, 0, 0, 0⟩)
abbrev s_is_integer : Stmt := topS 14
abbrev N_is_integer : List Str := ["thing"]
theorem sc_is_integer : FnScope N_is_integer ["thing"] (defScope s_is_integer) := ⟨rfl, rfl, rfl, by decide +kernel, rfl, by decide +kernel, by decide +kernel⟩
abbrev s_is_integer_within : Stmt := topS 15
abbrev N_is_integer_within : List Str := ["thing", "least", "most"]
theorem sc_is_integer_within : FnScope N_is_integer_within ["thing", "least", "most"] (defScope s_is_integer_within) := ⟨rfl, rfl, rfl, by decide +kernel, rfl, by decide +kernel, by decide +kernel⟩
abbrev s_is_name : Stmt := topS 24
abbrev N_is_name : List Str := ["thing", "character"]
theorem sc_is_name : FnScope N_is_name ["thing"] (defScope s_is_name) := ⟨rfl, rfl, rfl, by decide +kernel, rfl, by decide +kernel, by decide +kernel⟩
abbrev s_blob : Stmt := topS 56
abbrev N_blob : List Str := ["numbers"]
theorem sc_blob : FnScope N_blob ["numbers"] (defScope s_blob) := ⟨rfl, rfl, rfl, by decide +kernel, rfl, by decide +kernel, by decide +kernel⟩
abbrev s_is_row_of_bytes : Stmt := topS 57
abbrev N_is_row_of_bytes : List Str := ["thing", "number"]
theorem sc_is_row_of_bytes : FnScope N_is_row_of_bytes ["thing"] (defScope s_is_row_of_bytes) := ⟨rfl, rfl, rfl, by decide +kernel, rfl, by decide +kernel, by decide +kernel⟩
abbrev s__law_source : Stmt := topS 67
abbrev N__law_source : List Str := ["_law_script", "_law_at", "_law_cell", "_law_great", "_law_mixed"]
theorem sc__law_source : FnScope N__law_source ["_law_script", "_law_at"] (defScope s__law_source) := ⟨rfl, rfl, rfl, by decide +kernel, rfl, by decide +kernel, by decide +kernel⟩
abbrev s__law_draw : Stmt := topS 68
abbrev N__law_draw : List Str := ["_law_source_here", "_law_many", "_law_digit", "_law_primes", "_law_turn", "_law_base", "_law_found"]
theorem sc__law_draw : FnScope N__law_draw ["_law_source_here", "_law_many"] (defScope s__law_draw) := ⟨rfl, rfl, rfl, by decide +kernel, rfl, by decide +kernel, by decide +kernel⟩
abbrev s__law_stamps : Stmt := topS 71
abbrev N__law_stamps : List Str := ["_law_source_here"]
theorem sc__law_stamps : FnScope N__law_stamps ["_law_source_here"] (defScope s__law_stamps) := ⟨rfl, rfl, rfl, by decide +kernel, rfl, by decide +kernel, by decide +kernel⟩
abbrev s_law : Stmt := topS 87
abbrev N_law : List Str := ["_law_script", "_law_at", "_law_source_here", "_law_turn", "_law_tree_here", "_law_stands", "_law_shared", "_law_house_here", "_law_more", "_law_other", "_law_twin", "_law_same", "_law_name", "_law_value"]
theorem sc_law : FnScope N_law ["_law_script"] (defScope s_law) := ⟨rfl, rfl, rfl, by decide +kernel, rfl, by decide +kernel, by decide +kernel⟩
abbrev s_File___init__ : Stmt := inClass (topS 38) 1
abbrev N_File___init__ : List Str := ["self", "name", "data", "mode", "time"]
theorem sc_File___init__ : FnScope N_File___init__ ["self", "name", "data", "mode", "time"] (defScope s_File___init__) := ⟨rfl, rfl, rfl, by decide +kernel, rfl, by decide +kernel, by decide +kernel⟩
abbrev s_Directory___init__ : Stmt := inClass (topS 40) 1
abbrev N_Directory___init__ : List Str := ["self", "name", "mode", "time"]
theorem sc_Directory___init__ : FnScope N_Directory___init__ ["self", "name", "mode", "time"] (defScope s_Directory___init__) := ⟨rfl, rfl, rfl, by decide +kernel, rfl, by decide +kernel, by decide +kernel⟩
abbrev s_Symlink___init__ : Stmt := inClass (topS 41) 1
abbrev N_Symlink___init__ : List Str := ["self", "name", "target", "mode", "time"]
theorem sc_Symlink___init__ : FnScope N_Symlink___init__ ["self", "name", "target", "mode", "time"] (defScope s_Symlink___init__) := ⟨rfl, rfl, rfl, by decide +kernel, rfl, by decide +kernel, by decide +kernel⟩
abbrev s_Link___init__ : Stmt := inClass (topS 42) 1
abbrev N_Link___init__ : List Str := ["self", "name", "target", "mode", "time"]
theorem sc_Link___init__ : FnScope N_Link___init__ ["self", "name", "target", "mode", "time"] (defScope s_Link___init__) := ⟨rfl, rfl, rfl, by decide +kernel, rfl, by decide +kernel, by decide +kernel⟩
abbrev s_Sparse___init__ : Stmt := inClass (topS 39) 1
abbrev N_Sparse___init__ : List Str := ["self", "name", "size", "mode", "time", "pieces"]
theorem sc_Sparse___init__ : FnScope N_Sparse___init__ ["self", "name", "size", "mode", "time", "pieces"] (defScope s_Sparse___init__) := ⟨rfl, rfl, rfl, by decide +kernel, rfl, by decide +kernel, by decide +kernel⟩
abbrev s_check_name : Stmt := topS 33
abbrev N_check_name : List Str := ["thing"]
theorem sc_check_name : FnScope N_check_name ["thing"] (defScope s_check_name) := ⟨rfl, rfl, rfl, by decide +kernel, rfl, by decide +kernel, by decide +kernel⟩
abbrev s_check_data : Stmt := topS 34
abbrev N_check_data : List Str := ["thing"]
theorem sc_check_data : FnScope N_check_data ["thing"] (defScope s_check_data) := ⟨rfl, rfl, rfl, by decide +kernel, rfl, by decide +kernel, by decide +kernel⟩
abbrev s_check_pieces : Stmt := topS 35
abbrev N_check_pieces : List Str := ["size", "pieces"]
theorem sc_check_pieces : FnScope N_check_pieces ["size", "pieces"] (defScope s_check_pieces) := ⟨rfl, rfl, rfl, by decide +kernel, rfl, by decide +kernel, by decide +kernel⟩
abbrev s_are_pieces : Stmt := topS 30
abbrev N_are_pieces : List Str := ["size", "pieces", "offset", "data", "piece"]
theorem sc_are_pieces : FnScope N_are_pieces ["size", "pieces"] (defScope s_are_pieces) := ⟨rfl, rfl, rfl, by decide +kernel, rfl, by decide +kernel, by decide +kernel⟩
abbrev s_is_piece : Stmt := topS 31
abbrev N_is_piece : List Str := ["thing"]
theorem sc_is_piece : FnScope N_is_piece ["thing"] (defScope s_is_piece) := ⟨rfl, rfl, rfl, by decide +kernel, rfl, by decide +kernel, by decide +kernel⟩
abbrev s_check_mode_and_time : Stmt := topS 36
abbrev N_check_mode_and_time : List Str := ["mode", "time"]
theorem sc_check_mode_and_time : FnScope N_check_mode_and_time ["mode", "time"] (defScope s_check_mode_and_time) := ⟨rfl, rfl, rfl, by decide +kernel, rfl, by decide +kernel, by decide +kernel⟩
abbrev s_target_of : Stmt := topS 43
abbrev N_target_of : List Str := ["member"]
theorem sc_target_of : FnScope N_target_of ["member"] (defScope s_target_of) := ⟨rfl, rfl, rfl, by decide +kernel, rfl, by decide +kernel, by decide +kernel⟩
/-- the state of the drawing: three ints -/
def Src (H : Hp) (a : Addr) : Prop := ∃ l m c : Int, H a = some (.lst [.int l, .int m, .int c]) ∧ True
/-- no more than n draws until now -/
def SrcB (n : Nat) (H : Hp) (a : Addr) : Prop := ∃ l m : Int, ∃ c : Nat, H a = some (.lst [.int l, .int m, .int (c : Int)]) ∧ 0 ≤ l ∧ 0 ≤ m ∧ m < 2305843009213693951 ∧ c ≤ n
theorem SrcB.src {n : Nat} {H : Hp} {a : Addr} (h : SrcB n H a) : Src H a := by
  obtain ⟨l, m, c, g, _⟩ := h
  exact ⟨_, _, _, g, True.intro⟩
theorem SrcB.mono {n m : Nat} {H : Hp} {a : Addr} (h : SrcB n H a) (e : n ≤ m) : SrcB m H a := by
  obtain ⟨l, q, c, g, a1, a2, a3, a4⟩ := h
  exact ⟨l, q, c, g, a1, a2, a3, Nat.le_trans a4 e⟩
def CPowW (i j : Int) : Prop := 0 ≤ j ∧ ((Builtin.Int.intBits i : Nat) : Int) * j ≤ 2 ^ 27
theorem op_powW {X : Cx} : OpR X (binaryOp .Pow) (rI CPowW fun i j => V.int (i ^ j.toNat)) := opI fun _ _ _ _ _ _ _ hc q => pow_int hc.1 hc.2 q
theorem bits_le {a : Int} {b : Nat} (h : a.natAbs < 2 ^ b) : Builtin.Int.intBits a ≤ b := by
  unfold Builtin.Int.intBits
  split
  · exact Nat.zero_le _
  · rename_i e
    have : a.natAbs ≠ 0 := fun g => e (by rw [Int.natAbs_eq_zero.mp g]; rfl)
    exact (Nat.log2_lt this).mpr h
theorem base_ok {m : Int} {c : Nat} (h0 : 0 ≤ m) (h1 : m < 2305843009213693951) (h2 : c ≤ 1000000) : CPowW ((m + 50021 * ((c : Int) + 1)) * (2 * ((c : Int) + 1) + 3) + 6151 * ((c : Int) + 1) * ((c : Int) + 1)) 3 := by
  obtain ⟨A, ea⟩ : ∃ A, m + 50021 * ((c : Int) + 1) = A := ⟨_, rfl⟩
  obtain ⟨B, eb⟩ : ∃ B, 2 * ((c : Int) + 1) + 3 = B := ⟨_, rfl⟩
  obtain ⟨D, ed⟩ : ∃ D, 6151 * ((c : Int) + 1) = D := ⟨_, rfl⟩
  obtain ⟨F, ef⟩ : ∃ F, (c : Int) + 1 = F := ⟨_, rfl⟩
  rw [ea, eb, ed, ef]
  have p1 : A * B ≤ 4611686018427387904 * 2097152 := Int.mul_le_mul (by omega) (by omega) (by omega) (by decide)
  have p0 : 0 ≤ A * B := Int.mul_nonneg (by omega) (by omega)
  have p2 : D * F ≤ 4611686018427387904 * 2097152 := Int.mul_le_mul (by omega) (by omega) (by omega) (by decide)
  have p3 : 0 ≤ D * F := Int.mul_nonneg (by omega) (by omega)
  have t : (A * B + D * F).natAbs < 2 ^ 100 := by
    generalize A * B = X at *
    generalize D * F = Y at *
    omega
  have := bits_le t
  exact ⟨by decide, by omega⟩
def primes7 : List Int := [2147483647, 2147483629, 2147483587, 2147483579, 2147483563, 2147483549, 2147483543]
theorem prime7 {k : Int} (h0 : 0 ≤ k) (h1 : k < 7) : ∃ v : Int, atI (primes7.map V.int) k = some (.int v) ∧ 2147483543 ≤ v ∧ v ≤ 2147483647 := by
  rcases (by omega : k = 0 ∨ k = 1 ∨ k = 2 ∨ k = 3 ∨ k = 4 ∨ k = 5 ∨ k = 6) with rfl | rfl | rfl | rfl | rfl | rfl | rfl <;> exact ⟨_, rfl, by decide, by decide⟩
def spDraw : Sp := fun vs H Q _ => ∃ (a : Addr) (n : Int) (u : Nat), vs = [.ref a, .int n] ∧ SrcB u H a ∧ u < 1000000 ∧ 0 < n ∧ n < 1000000000000 ∧ ∀ (d : Int) H', 0 ≤ d → d < n → SrcB (u + 1) H' a → But a H H' → Q (.int d) H'
theorem sp_draw {a : Addr} {n : Int} {u : Nat} {H : Hp} {Q : VK} {E : XK} (h : SrcB u H a) (hu : u < 1000000) (h0 : 0 < n) (h1 : n < 1000000000000) (k : ∀ (d : Int) H', 0 ≤ d → d < n → SrcB (u + 1) H' a → But a H H' → Q (.int d) H') : spDraw ([.ref a, .int n] ++ []) H Q E := ⟨a, n, u, rfl, h, hu, h0, h1, k⟩
section
variable {P : Program} {w : World} {K : PySem.W.Frag} {mg : Str → Option Value} {base : Heap}
theorem ok_draw {f : Addr} {fd : FuncData} {k : Nat} (F : Fun K "_law_draw" "_law_draw" s__law_draw f fd) (mi : mg "int" = none) : FnOk P w K mg base CX0 (k + 2) f fd ["_law_source_here", "_law_many"] spDraw := by
  refine F.ok sc__law_draw (fun vs H Q E h => ?_) (fun cdv A outer s H vs Q E hr h => ?_)
  · obtain ⟨a, n, u, rfl, _⟩ := h
    rfl
  · obtain ⟨a, n, u, rfl, ⟨l, m, c, ha, hl0, hm0, hm1, hcu⟩, hu9, hn0, hn1, q⟩ := h
    have hu := hu_of hr
    have nd := sc__law_draw.nd
    refine ⟨_, (pss_cons (ps_if (pt_cmpR op_gt (pe_ix (ix_listK K) (pv 0) pe_int (fun _ _ => rfl)) pe_int (nomark _))
        (pss_cons (ps_set (i := 2) nd rfl (Or.inl rfl) (pe_op op_mod (pe_callTy call_rInt1 (by rfl) (by assumption) (by decide +kernel) (pa_cons (pe_ix (ix_listK K) (pv 0) pe_int (fun _ _ => rfl)) pa_nil)) (pv 1)))
      (pss_cons (ps_asg (pe_op op_fdivW (pe_ix (ix_listK K) (pv 0) pe_int (fun _ _ => rfl)) (pv 1)) (pg_sub (pv 0) pe_int set_list))
      (pss_one (ps_ret (pv 2)))))
        pss_nil)
      (pss_cons (ps_set (i := 3) nd rfl (Or.inl rfl) (pe_tup (pa_cons pe_int (pa_cons pe_int (pa_cons pe_int (pa_cons pe_int (pa_cons pe_int (pa_cons pe_int (pa_cons pe_int pa_nil)))))))))
      (pss_cons (ps_asg (pe_op op_add (pe_ix (ix_listK K) (pv 0) pe_int (fun _ _ => rfl)) pe_int) (pg_sub (pv 0) pe_int set_list))
      (pss_cons (ps_set (i := 4) nd rfl (Or.inl rfl) (pe_ix (ix_listK K) (pv 0) pe_int (fun _ _ => rfl)))
      (pss_cons (ps_set (i := 5) nd rfl (Or.inl rfl) (pe_op op_add (pe_op op_mul (pe_op op_add (pe_ix (ix_listK K) (pv 0) pe_int (fun _ _ => rfl)) (pe_op op_mul pe_int (pv 4))) (pe_op op_add (pe_op op_mul pe_int (pv 4)) pe_int)) (pe_op op_mul (pe_op op_mul pe_int (pv 4)) (pv 4))))
      (pss_cons (ps_set (i := 6) nd rfl (Or.inl rfl) (pe_op op_mod (pe_callTy call_rInt1 (by rfl) (by assumption) (by decide +kernel) (pa_cons (pe_op op_powW (pv 5) pe_int) pa_nil)) (pe_ix (ix_tupK K) (pv 3) (pe_op op_mod (pe_callTy call_rInt1 (by rfl) (by assumption) (by decide +kernel) (pa_cons (pv 4) pa_nil)) pe_int) (fun _ _ => rfl))))
      (pss_cons (ps_set (i := 6) nd rfl (Or.inl rfl) (pe_op op_mod (pe_callTy call_rInt1 (by rfl) (by assumption) (by decide +kernel) (pa_cons (pe_op op_mul (pv 6) (pe_op op_add (pe_op op_add (pe_op op_fdivW (pv 6) pe_int) (pe_op op_mul pe_int (pv 4))) pe_int)) pa_nil)) (pe_ix (ix_tupK K) (pv 3) (pe_op op_mod (pe_callTy call_rInt1 (by rfl) (by assumption) (by decide +kernel) (pa_cons (pe_op op_add (pv 4) pe_int) pa_nil)) pe_int) (fun _ _ => rfl))))
      (pss_one (ps_ret (pe_op op_mod (pe_callTy call_rInt1 (by rfl) (by assumption) (by decide +kernel) (pa_cons (pe_op op_fdivW (pv 6) pe_int) pa_nil)) (pv 1))))))))))), ?_⟩
    walk_at "rd"
    refine r_iteD (fun h0 => ?_) (fun h0 => ?_)
    · walk_at "rd"
      refine q _ _ (Int.emod_nonneg _ (by omega)) (Int.emod_lt_of_pos _ hn0) ⟨l / n, m, c, upd_same, Int.ediv_nonneg hl0 (by omega), hm0, hm1, by omega⟩ (fun b o nb e => by rw [upd_ne nb]; exact e)
    · walk_at "rd"
      rename_i p hp
      have npa : p ≠ a := fun e => by rw [e, ha] at hp; cases hp
      have hb := base_ok hm0 hm1 (by omega : c ≤ 1000000)
      generalize (m + 50021 * ((c : Int) + 1)) * (2 * ((c : Int) + 1) + 3) + 6151 * ((c : Int) + 1) * ((c : Int) + 1) = X at hb ⊢
      refine r_I hb ?_
      walk_at "rd"
      obtain ⟨v, hv, v1, v2⟩ := prime7 (k := ((c : Int) + 1) % 7) (Int.emod_nonneg _ (by decide)) (Int.emod_lt_of_pos _ (by decide))
      refine r_ixT (SqT.of (by rw [upd_ne npa, upd_same]; rfl)) hv ?_
      walk_at "rd"
      have y0 : 0 ≤ X ^ Int.toNat 3 % v := Int.emod_nonneg _ (by omega)
      have y1 : X ^ Int.toNat 3 % v < v := Int.emod_lt_of_pos _ (by omega)
      generalize X ^ Int.toNat 3 % v = Y at y0 y1 ⊢
      refine r_I (.inl ⟨by omega, by omega⟩) ?_
      walk_at "rd"
      obtain ⟨v', hv', v1', v2'⟩ := prime7 (k := ((c : Int) + 1 + 2) % 7) (Int.emod_nonneg _ (by decide)) (Int.emod_lt_of_pos _ (by decide))
      refine r_ixT (SqT.of (by rw [upd_ne npa, upd_same]; rfl)) hv' ?_
      walk_at "rd"
      have e1 : ((c : Int) + 1) = ((c + 1 : Nat) : Int) := by push_cast; rfl
      refine q _ _ (Int.emod_nonneg _ (by omega)) (Int.emod_lt_of_pos _ hn0) ⟨l, m, c + 1, by rw [upd_same]; rfl, hl0, hm0, hm1, by omega⟩ (fun b o nb e => by rw [upd_ne nb, upd_ne (fun g => by rw [g, hp] at e; cases e)]; exact e)
/-! ### the program's defs -/
def spIsI : Sp := fun vs H Q _ => ∃ i : Int, vs = [.int i] ∧ Q (.bl true) H
theorem sp_isI {i : Int} {H : Hp} {Q : VK} {E : XK} (k : Q (.bl true) H) : spIsI ([.int i] ++ []) H Q E := ⟨i, rfl, k⟩
theorem ok_isI {f : Addr} {fd : FuncData} {k : Nat} (F : Fun K "is_integer" "is_integer" s_is_integer f fd) (m1 : mg "isinstance" = none) (m2 : mg "bool" = none) (m3 : mg "int" = none) : FnOk P w K mg base CX0 (k + 1) f fd ["thing"] spIsI := by
  refine F.ok sc_is_integer (fun vs H Q E h => ?_) (fun cdv A outer s H vs Q E hr h => ?_)
  · obtain ⟨i, rfl, _⟩ := h
    rfl
  · obtain ⟨i, rfl, q⟩ := h
    have hu := hu_of hr
    have nd := sc_is_integer.nd
    refine ⟨_, (pss_one (ps_ret (pe_and (pe_callB (call_isiK1 K) (by rfl) (by assumption) (by decide +kernel) (pa_cons (pv 0) (pa_cons (pe_bltn (v := .ty "int") (by rfl) (by assumption) (by decide +kernel) rfl) pa_nil))) (pe_one (pe_not (pe_callB (call_isiK1 K) (by rfl) (by assumption) (by decide +kernel) (pa_cons (pv 0) (pa_cons (pe_bltn (v := .ty "bool") (by rfl) (by assumption) (by decide +kernel) rfl) pa_nil)))))))), ?_⟩
    walk_at "rd"
    exact q
def spWithin : Sp := fun vs H Q _ => ∃ (i lo hi : Int), vs = [.int i, .int lo, .int hi] ∧ Q (.bl (decide (lo ≤ i) && decide (i ≤ hi))) H
theorem ok_within {f : Addr} {fd : FuncData} {k : Nat} (F : Fun K "is_integer_within" "is_integer_within" s_is_integer_within f fd) (c_isI : CalT P w K mg base 1 "is_integer" spIsI) : FnOk P w K mg base CX0 (k + 2) f fd ["thing", "least", "most"] spWithin := by
  refine F.ok sc_is_integer_within (fun vs H Q E h => ?_) (fun cdv A outer s H vs Q E hr h => ?_)
  · obtain ⟨i, lo, hi, rfl, _⟩ := h
    rfl
  · obtain ⟨i, lo, hi, rfl, q⟩ := h
    have hu := hu_of hr
    have nd := sc_is_integer_within.nd
    refine ⟨_, (pss_one (ps_ret (pe_and (pe_cc c_isI hr (by omega) (by rfl) (pa_cons (pv 0) pa_nil)) (pe_one (pe_chain op_le op_le (pv 1) (pv 0) (pv 2)))))), ?_⟩
    walk_at "rd"
    refine sp_isI ?_
    walk_at "rd"
    refine r_iteD (fun h1 => ?_) (fun h1 => ?_)
    · walk_at "rd"
      rw [decide_eq_true h1, Bool.true_and] at q
      exact q
    · walk_at "rd"
      rw [decide_eq_false h1, Bool.false_and] at q
      exact q
theorem sp_within {i lo hi : Int} {H : Hp} {Q : VK} {E : XK} (k : Q (.bl (decide (lo ≤ i) && decide (i ≤ hi))) H) : spWithin ([.int i, .int lo, .int hi] ++ []) H Q E := ⟨i, lo, hi, rfl, k⟩
end
section
variable {P : Program} {w : World} {K : PySem.W.Frag} {mg : Str → Option Value} {base : Heap}
def inByte (i : Int) : Bool := decide (0 ≤ i) && decide (i ≤ 255)
def spRow : Sp := fun vs H Q _ => ∃ (a : Addr) (ns : List Int), vs = [.ref a] ∧ H a = some (.lst (ns.map V.int)) ∧ ns.length ≤ 70000 ∧ ∀ H', Same H H' → Q (.bl (ns.all inByte)) H'
theorem ok_row {f : Addr} {fd : FuncData} {k : Nat} (F : Fun K "is_row_of_bytes" "is_row_of_bytes" s_is_row_of_bytes f fd) (c_within : CalT P w K mg base 2 "is_integer_within" spWithin)
    (m1 : mg "isinstance" = none) (m2 : mg "list" = none) (m3 : mg "tuple" = none) (m4 : mg "all" = none) : FnOk P w K mg base CX0 (k + 3) f fd ["thing"] spRow := by
  refine F.ok sc_is_row_of_bytes (fun vs H Q E h => ?_) (fun cdv A outer s H vs Q E hr h => ?_)
  · obtain ⟨a, ns, rfl, _⟩ := h
    rfl
  · obtain ⟨a, ns, rfl, ha, hz, q⟩ := h
    have hu := hu_of hr
    have nd := sc_is_row_of_bytes.nd
    refine ⟨_, (pss_cons (ps_if (pt_not (pt_val (pe_callB (call_isiK2 K) (by rfl) (by assumption) (by decide +kernel) (pa_cons (pv 0) (pa_cons (pe_tup (pa_cons (pe_bltn (v := .ty "list") (by rfl) (by assumption) (by decide +kernel) rfl) (pa_cons (pe_bltn (v := .ty "tuple") (by rfl) (by assumption) (by decide +kernel) rfl) pa_nil))) pa_nil)))))
        (pss_one (ps_ret pe_bl))
        pss_nil)
      (pss_one (ps_ret (pe_callB (call_allK K) (by rfl) (by assumption) (by decide +kernel) (pa_cons (pe_lc (own := [("number", 1)]) (g := (gName 1)) (tt := tYes) rfl nd (pi_list (pv 0)) (blkOk_by (N := N_is_row_of_bytes) (sc := defScope s_is_row_of_bytes) (by decide +kernel)) (fun _ _ _ _ _ => (pg_name (i := 1) nd rfl (Or.inl rfl))) (fun _ _ _ _ _ => pts_nil) (fun _ _ _ _ _ => (pe_cc c_within hr (by omega) (by rfl) (pa_cons (pv 1) (pa_cons pe_int (pa_cons pe_int pa_nil)))))) pa_nil))))), ?_⟩
    walk_at "rd"
    intro D hD
    refine lc_map (cs := ns) (enc := V.int) (f := fun i => V.bl (inByte i)) walk_list hD (Nat.lt_of_le_of_lt hz (by decide)) (fun H' e => SqL.of (e _ _ (by walk_at "lk"))) (fun x => rfl) ?_ ?_
    · intro c hc H' e Q' k'
      walk_at "rd"
      exact sp_within (k' _ (Same.refl _))
    · intro H' e hl
      walk_at "rd"
      refine r_all (bs := ns.map inByte) (by rw [List.map_map]; exact SqL.of hl) ?_
      have e2 : (ns.map inByte).all id = ns.all inByte := by rw [List.all_map]; rfl
      rw [e2]
      exact q H' (fun b o x => e b o (by walk_at "lk"))
theorem sp_row {a : Addr} {ns : List Int} {H : Hp} {Q : VK} {E : XK} (ha : H a = some (.lst (ns.map V.int))) (hz : ns.length ≤ 70000) (k : ∀ H', Same H H' → Q (.bl (ns.all inByte)) H') : spRow ([.ref a] ++ []) H Q E := ⟨a, ns, rfl, ha, hz, k⟩
def spBlob : Sp := fun vs H Q _ => ∃ (a : Addr) (ns : List Int), vs = [.ref a] ∧ H a = some (.lst (ns.map V.int)) ∧ ns.length ≤ 70000 ∧ ns.all inByte = true ∧ ∀ H', Same H H' → Q (.byt (byteArr ns)) H'
theorem sp_blob {a : Addr} {ns : List Int} {H : Hp} {Q : VK} {E : XK} (ha : H a = some (.lst (ns.map V.int))) (hz : ns.length ≤ 70000) (hb : ns.all inByte = true) (k : ∀ H', Same H H' → Q (.byt (byteArr ns)) H') : spBlob ([.ref a] ++ []) H Q E := ⟨a, ns, rfl, ha, hz, hb, k⟩
theorem ok_blob {f : Addr} {fd : FuncData} {k : Nat} (F : Fun K "blob" "blob" s_blob f fd) (c_row : CalT P w K mg base 3 "is_row_of_bytes" spRow) (m1 : mg "bytes" = none) : FnOk P w K mg base CX0 (k + 4) f fd ["numbers"] spBlob := by
  refine F.ok sc_blob (fun vs H Q E h => ?_) (fun cdv A outer s H vs Q E hr h => ?_)
  · obtain ⟨a, ns, rfl, _⟩ := h
    rfl
  · obtain ⟨a, ns, rfl, ha, hz, hb, q⟩ := h
    have hu := hu_of hr
    have nd := sc_blob.nd
    refine ⟨_, (pss_cons (ps_if (pt_not (pt_val (pe_cc c_row hr (by omega) (by rfl) (pa_cons (pv 0) pa_nil))))
        (pss_one ps_never)
        pss_nil)
      (pss_one (ps_ret (pe_bytesOf rfl (by rfl) (by assumption) (pv 0))))), ?_⟩
    walk_at "rd"
    refine sp_row ha hz (fun H' e => ?_)
    rw [hb]
    walk_at "rd"
    refine r_bytesL (SqL.of (e _ _ ha)) (fun n hn => ?_) (q H' e)
    have h1 := List.all_eq_true.mp hb n hn
    unfold inByte at h1
    simp only [Bool.and_eq_true, decide_eq_true_eq] at h1
    omega
/-! ### names -/
def NC : Str := "abcdefghijklmnopqrstuvwxyz0123456789._-/"
def nameB (z : Str) : Bool := decide (1 ≤ z.length) && decide (z.length ≤ 250) && z.cps.toList.all (fun c => decide (c ∈ NC.cps.toList))
def nameV : V → Bool
  | .str z => nameB z
  | _ => false
/-- a text of up to 5000 signs, or a value of another kind -/
def AnyS (K : PySem.W.Frag) (H : Hp) (x : V) : Prop := (∃ z : Str, x = .str z ∧ z.length ≤ 5000) ∨ (nameV x = false ∧ ∃ T, TyX K H x (.type T) ∧ kitB T "str" = some false)
theorem AnyS.same {H H' : Hp} {x : V} (e : Same H H') (h : AnyS K H x) : AnyS K H' x := by
  rcases h with h | ⟨h, T, h1, h2⟩
  · exact .inl h
  · exact .inr ⟨h, T, same_tyB e h1, h2⟩
def spName (K : PySem.W.Frag) : Sp := fun vs H Q _ => ∃ x, vs = [x] ∧ AnyS K H x ∧ ∀ H', Same H H' → Q (.bl (nameV x)) H'
theorem sp_name {x : V} {H : Hp} {Q : VK} {E : XK} (ha : AnyS K H x) (k : ∀ H', Same H H' → Q (.bl (nameV x)) H') : spName K ([x] ++ []) H Q E := ⟨x, rfl, ha, k⟩
theorem ok_name {f : Addr} {fd : FuncData} {k : Nat} {t1 t2 : Tok} (F : Fun K "is_name" "is_name" s_is_name f fd) (m1 : mg "isinstance" = none) (m2 : mg "str" = none) (m3 : mg "len" = none) (m4 : mg "all" = none)
    (m_MOST : mg "MOST_CHARACTERS" = some (.int 250 t1)) (m_NC : mg "NAME_CHARACTERS" = some (.str NC t2)) : FnOk P w K mg base CX0 (k + 2) f fd ["thing"] (spName K) := by
  refine F.ok sc_is_name (fun vs H Q E h => ?_) (fun cdv A outer s H vs Q E hr h => ?_)
  · obtain ⟨x, rfl, _⟩ := h
    rfl
  · obtain ⟨x, rfl, hx, q⟩ := h
    have hu := hu_of hr
    have nd := sc_is_name.nd
    refine ⟨_, (pss_cons (ps_if (PW.pt (pw_or (pt_not (pt_val (pe_callB (call_isiK1 K) (by rfl) (by assumption) (by decide +kernel) (pa_cons (pv 0) (pa_cons (pe_bltn (v := .ty "str") (by rfl) (by assumption) (by decide +kernel) rfl) pa_nil))))) (pw_or1 (pt_not (pt_chain op_le op_le pe_int (pe_callB call_rLenZ (by rfl) (by assumption) (by decide +kernel) (pa_cons (pv 0) pa_nil)) (pe_glob (v := .int 250) (by rfl) m_MOST (by first | exact rfl | exact ⟨_, rfl⟩)))))))
        (pss_one (ps_ret pe_bl))
        pss_nil)
      (pss_one (ps_ret (pe_callB (call_allK K) (by rfl) (by assumption) (by decide +kernel) (pa_cons (pe_lc (own := [("character", 1)]) (g := (gName 1)) (tt := tYes) rfl nd (pi_str (pv 0)) (blkOk_by (N := N_is_name) (sc := defScope s_is_name) (by decide +kernel)) (fun _ _ _ _ _ => (pg_name (i := 1) nd rfl (Or.inl rfl))) (fun _ _ _ _ _ => pts_nil) (fun _ _ _ _ _ => (pe_cmpR op_inSign (pv 1) (pe_glob (v := .str NC) (by rfl) m_NC (by first | exact rfl | exact ⟨_, rfl⟩)) (by rfl)))) pa_nil))))), ?_⟩
    rcases hx with ⟨z, rfl, hz⟩ | ⟨hx, T, h1, h2⟩
    · have hz' : z.length ≤ sizeLine := Nat.le_trans hz (by decide)
      have q' : ∀ H', Same H H' → Q (.bl (nameB z)) H' := q
      unfold nameB at q'
      walk_at "rd"
      refine r_iteD (fun h1 => ?_) (fun h1 => ?_)
      · walk_at "rd"
        refine r_iteN (fun h2 => ?_) (fun h2 => ?_)
        · walk_at "rd"
          have h3 : ¬ z.length ≤ 250 := by have := of_decide_eq_false h2; omega
          rw [decide_eq_false h3, Bool.and_false, Bool.false_and] at q'
          exact q' _ (Same.refl _)
        · walk_at "rd"
          intro D hD
          refine lc_map (cs := z.cps.toList) (enc := fun c => V.str ⟨#[c]⟩) (f := fun c => V.bl (decide (c ∈ NC.cps.toList))) walk_strC hD (by have : z.cps.size ≤ 5000 := hz; rw [Array.length_toList]; exact Nat.lt_of_le_of_lt this (by decide)) (fun H' e => True.intro) (fun x => rfl) ?_ ?_
          · intro c hc H' e Q' k'
            walk_at "rd"
            exact k' _ (Same.refl _)
          · intro H' e hl
            walk_at "rd"
            refine r_all (bs := z.cps.toList.map fun c => decide (c ∈ NC.cps.toList)) (by rw [List.map_map]; exact SqL.of hl) ?_
            have h3 : z.length ≤ 250 := by have := of_decide_eq_true h2; omega
            have h1' : 1 ≤ z.length := by omega
            rw [decide_eq_true h3, decide_eq_true h1', Bool.true_and, Bool.true_and] at q'
            have e2 : (z.cps.toList.map fun c => decide (c ∈ NC.cps.toList)).all id = z.cps.toList.all fun c => decide (c ∈ NC.cps.toList) := by rw [List.all_map]; rfl
            rw [e2]
            exact q' H' e
      · walk_at "rd"
        have h3 : ¬ 1 ≤ z.length := by omega
        rw [decide_eq_false h3, Bool.false_and, Bool.false_and] at q'
        exact q' _ (Same.refl _)
    · walk_at "rd"
      rw [hx] at q
      exact q _ (Same.refl _)
end
section
variable {P : Program} {w : World} {K : PySem.W.Frag} {mg : Str → Option Value} {base : Heap}
def spSource (K : PySem.W.Frag) : Sp := fun vs H Q _ => ∃ (a : Addr) (ns : List Int) (i : Nat), vs = [.ref a, .int (i : Int)] ∧ SqL K H a (ns.map V.int) ∧ ns.length ≤ 63 ∧ i ≤ 63 ∧ ∀ p H', H p = none → Same H H' → SrcB 0 H' p → Q (.ref p) H'
theorem sp_source {a : Addr} {ns : List Int} {i : Nat} {H : Hp} {Q : VK} {E : XK} (hs : SqL K H a (ns.map V.int)) (hz : ns.length ≤ 63) (hi : i ≤ 63) (k : ∀ p H', H p = none → Same H H' → SrcB 0 H' p → Q (.ref p) H') : spSource K ([.ref a, .int (i : Int)] ++ []) H Q E := ⟨a, ns, i, rfl, hs, hz, hi, k⟩
theorem ints_at {ns : List Int} {i : Nat} (h : i < ns.length) : (ns.map V.int)[i]? = some (.int ns[i]) := by rw [List.getElem?_map, List.getElem?_eq_getElem h]; rfl
theorem ok_source {f : Addr} {fd : FuncData} {k : Nat} (F : Fun K "_law_source" "_law_source" s__law_source f fd) (m1 : mg "len" = none) (m2 : mg "int" = none) (m3 : mg "abs" = none) :
    FnOk P w K mg base CX0 (k + 2) f fd ["_law_script", "_law_at"] (spSource K) := by
  refine F.ok sc__law_source (fun vs H Q E h => ?_) (fun cdv A outer s H vs Q E hr h => ?_)
  · obtain ⟨a, ns, i, rfl, _⟩ := h
    rfl
  · obtain ⟨a, ns, i, rfl, hS, hz, hi, q⟩ := h
    have hu := hu_of hr
    have nd := sc__law_source.nd
    have hml : (ns.map V.int).length = ns.length := List.length_map ..
    refine ⟨_, (pss_cons (ps_set (i := 2) nd rfl (Or.inl rfl) (pe_ifExp (pt_cmpR op_lt (pv 1) (pe_callB (call_lenK K) (by rfl) (by assumption) (by decide +kernel) (pa_cons (pv 0) pa_nil)) (nomark _)) (pe_ix (ix_listK K) (pv 0) (pv 1) (fun _ _ => rfl)) pe_int))
      (pss_cons (ps_set (i := 3) nd rfl (Or.inl rfl) (pe_ifExp (pt_cmpR op_ge (pe_callB call_rAbs (by rfl) (by assumption) (by decide +kernel) (pa_cons (pv 2) pa_nil)) (pe_op op_pow pe_int pe_int) (nomark _)) (pe_callB call_rAbs (by rfl) (by assumption) (by decide +kernel) (pa_cons (pv 2) pa_nil)) pe_int))
      (pss_cons (ps_set (i := 4) nd rfl (Or.inl rfl) (pe_op op_add (pe_op op_add (pe_op op_add (pe_op op_mod (pe_callTy call_rInt1 (by rfl) (by assumption) (by decide +kernel) (pa_cons (pv 2) pa_nil)) pe_int) (pe_op op_mul (pe_op op_mul pe_int (pv 1)) (pv 1))) (pe_op op_mul pe_int (pv 1))) pe_int))
      (pss_one (ps_ret (pe_lst (pa_cons (pv 3) (pa_cons (pe_op op_mod (pe_callTy call_rInt1 (by rfl) (by assumption) (by decide +kernel) (pa_cons (pv 4) pa_nil)) pe_int) (pa_cons pe_int pa_nil))))))))), ?_⟩
    walk_at "rd"
    refine r_joinI (fun _ => True) (fun cell _ => ?_) (fun Q' k h1 => ?_) (fun Q' k h1 => ?_)
    · walk_at "rd"
      refine r_joinI (fun large => 0 ≤ large) (fun large hl => ?_) (fun Q' k h1 => ?_) (fun Q' k h1 => ?_)
      · walk_at "rd"
        rename_i p hp
        exact q p _ hp (same_new hp) ⟨large, _, 0, upd_same, hl, Int.emod_nonneg _ (by decide), Int.emod_lt_of_pos _ (by decide), Nat.le_refl _⟩
      · walk_at "rd"
        exact k _ (by omega)
      · walk_at "rd"
        exact k _ (by decide)
    · have hi' : i < ns.length := by omega
      walk_at "rd"
      refine r_ixL hS (atI_nat (ints_at hi')) ?_
      exact k _ True.intro
    · walk_at "rd"
      exact k _ True.intro
end
theorem But.refl (a : Addr) (H : Hp) : But a H H := fun _ _ _ e => e
theorem But.trans {a : Addr} {H H1 H2 : Hp} (x : But a H H1) (y : But a H1 H2) : But a H H2 := fun b o n e => y b o n (x b o n e)
theorem But.new {a p : Addr} {H H' : Hp} {o : HO} (hp : H p = none) (y : But a (upd H p o) H') : But a H H' := fun b u n e => y b u n (upd_old hp e)
theorem Same.but {a : Addr} {H H' : Hp} (e : Same H H') : But a H H' := fun b o _ h => e b o h
theorem Src.same {H H' : Hp} {a : Addr} (e : Same H H') (h : Src H a) : Src H' a := by
  obtain ⟨l, m, c, h1, h2⟩ := h
  exact ⟨l, m, c, e _ _ h1, h2⟩
theorem SrcB.same {n : Nat} {H H' : Hp} {a : Addr} (e : Same H H') (h : SrcB n H a) : SrcB n H' a := by
  obtain ⟨l, m, c, h1, h2⟩ := h
  exact ⟨l, m, c, e _ _ h1, h2⟩
theorem SrcB.new {n : Nat} {H : Hp} {a p : Addr} {o : HO} (hp : H p = none) (h : SrcB n H a) : SrcB n (upd H p o) a := h.same (same_new hp)
theorem SrcB.ne {n : Nat} {H : Hp} {a p : Addr} (h : SrcB n H a) (hp : H p = none) : p ≠ a := by
  obtain ⟨l, m, c, h1, h2⟩ := h
  exact (ne_of_none h1 hp).symm
theorem Src.new {H : Hp} {a p : Addr} {o : HO} (hp : H p = none) (h : Src H a) : Src (upd H p o) a := h.same (same_new hp)
theorem Src.ne {H : Hp} {a p : Addr} (h : Src H a) (hp : H p = none) : p ≠ a := by
  obtain ⟨l, m, c, h1, h2⟩ := h
  exact (ne_of_none h1 hp).symm
theorem pick_at {xs : List V} {d : Int} (h0 : 0 ≤ d) (h1 : d < (xs.length : Int)) : ∃ v, v ∈ xs ∧ atI xs d = some v := by
  have hd : d.toNat < xs.length := by omega
  refine ⟨xs[d.toNat], List.getElem_mem hd, ?_⟩
  have e : d = (d.toNat : Int) := by omega
  have h := atI_nat (List.getElem?_eq_getElem hd)
  rw [← e] at h
  exact h
section
variable {K : PySem.W.Frag} {σ : L2.St} {H : Hp} {Q : VK}
/-- one of a written list, drawn -/
theorem r_pick {a : Addr} {i : Nat} {n : Int} {u : Nat} {ta : TA} (P : V → Prop) (hi : σ[i]? = some (some (.ref a))) (h0 : 0 < n) (h1 : n < 1000000) (hu : u < 1000000)
    (hta : ∀ Q' : List V → Hp → Prop, (∀ xs H1, (xs.length : Int) = n → (∀ v ∈ xs, P v) → SrcB u H1 a → But a H H1 → Q' xs H1) → ta σ H Q') (k : ∀ v H', P v → SrcB (u + 1) H' a → But a H H' → Q v H') :
    tOp (rIxL K) (tLst ta) (tCall spDraw [] E0 (tCons (tVar i) (tCons (tC (.int n)) tNil))) σ H Q := by
  refine r_op (r_lst (hta _ fun xs H1 hl hp hs hb => ?_))
  refine ⟨Nat.le_trans (by omega : xs.length ≤ 1000000) (by decide), fun p hp0 => ?_⟩
  refine r_call (r_cons (r_var hi (r_cons (r_c (r_nil ?_)))))
  refine sp_draw (hs.new hp0) hu h0 (by omega) (fun d H' d0 d1 hs' hb' => ?_)
  obtain ⟨v, hv, e⟩ := pick_at (xs := xs) d0 (by omega)
  exact r_ixL (SqL.of (hb' p _ (hs.src.ne hp0) upd_same)) e (k v H' (hp v hv) hs' (hb.trans (hb'.new hp0)))
end
def intIn (lo hi : Int) (v : V) : Prop := ∃ i : Int, v = .int i ∧ lo ≤ i ∧ i ≤ hi
def intB (lo hi : Int) : V → Bool
  | .int i => decide (lo ≤ i) && decide (i ≤ hi)
  | _ => false
theorem int_all {lo hi : Int} {xs : List V} (h : xs.all (intB lo hi) = true) : ∀ v ∈ xs, intIn lo hi v := fun v hv => by
  have h1 := List.all_eq_true.mp h v hv
  cases v with
  | int i =>
    have h2 : (decide (lo ≤ i) && decide (i ≤ hi)) = true := h1
    simp only [Bool.and_eq_true, decide_eq_true_eq] at h2
    exact ⟨i, rfl, h2.1, h2.2⟩
  | _ => cases h1
theorem len_add (x y : Str) : (x ++ y).length = x.length + y.length := by
  rw [← SX.S_tl x, ← SX.S_tl y, SX.S_cat, SX.S_len, SX.S_len, SX.S_len, List.length_append]
/-! ### the signs of names -/
def charsB (z : Str) : Bool := z.cps.toList.all fun c => decide (c ∈ NC.cps.toList)
theorem charsB_add {x y : Str} (hx : charsB x = true) (hy : charsB y = true) : charsB (x ++ y) = true := by
  unfold charsB at *
  have e : (x ++ y).cps.toList = x.cps.toList ++ y.cps.toList := TL.tl_append x y
  rw [e, List.all_append, hx, hy]
  rfl
theorem name_of {z : Str} (h1 : 1 ≤ z.length) (h2 : z.length ≤ 250) (hc : charsB z = true) : nameB z = true := by
  unfold nameB
  unfold charsB at hc
  rw [decide_eq_true h1, decide_eq_true h2, hc]
  rfl
theorem of_name {z : Str} (h : nameB z = true) : 1 ≤ z.length ∧ z.length ≤ 250 ∧ charsB z = true := by
  unfold nameB at h
  simp only [Bool.and_eq_true, decide_eq_true_eq] at h
  exact ⟨h.1.1, h.1.2, h.2⟩
theorem inB {i : Int} (h0 : 0 ≤ i) (h1 : i < 256) : inByte i = true := by
  unfold inByte
  rw [decide_eq_true h0, decide_eq_true (by omega : i ≤ 255)]
  rfl
section
variable {P : Program} {w : World} {K : PySem.W.Frag} {mg : Str → Option Value} {base : Heap}
theorem But.back {a p : Addr} {H H' : Hp} (hs : Src H a) (hs' : Src H' a) (b : But a H H') (hp : H' p = none) : H p = none := by
  cases q : H p with
  | none => rfl
  | some o =>
    by_cases e : p = a
    · obtain ⟨l, m, c, h1, _⟩ := hs'
      rw [e, h1] at hp
      cases hp
    · rw [b p o e q] at hp
      cases hp
end
section
variable {P : Program} {w : World} {K : PySem.W.Frag} {mg : Str → Option Value} {base : Heap}
def spStamps : Sp := fun vs H Q _ => ∃ (a : Addr) (u : Nat), vs = [.ref a] ∧ SrcB u H a ∧ u ≤ 900000 ∧ ∀ p (b t : Int) H', H p = none → H' p = some (.tup [.int b, .int t]) → 0 ≤ b → b ≤ 4095 → 0 ≤ t → t ≤ 8589934591 → SrcB (u + 2) H' a → But a H H' → Q (.ref p) H'
theorem sp_stamps {a : Addr} {u : Nat} {H : Hp} {Q : VK} {E : XK} (h : SrcB u H a) (hu : u ≤ 900000) (k : ∀ p (b t : Int) H', H p = none → H' p = some (.tup [.int b, .int t]) → 0 ≤ b → b ≤ 4095 → 0 ≤ t → t ≤ 8589934591 → SrcB (u + 2) H' a → But a H H' → Q (.ref p) H') : spStamps ([.ref a] ++ []) H Q E := ⟨a, u, rfl, h, hu, k⟩
theorem ok_stamps {f : Addr} {fd : FuncData} {k : Nat} (F : Fun K "_law_stamps" "_law_stamps" s__law_stamps f fd) (c_draw : CalT P w K mg base 2 "_law_draw" spDraw) :
    FnOk P w K mg base CX0 (k + 3) f fd ["_law_source_here"] spStamps := by
  refine F.ok sc__law_stamps (fun vs H Q E h => ?_) (fun cdv A outer s H vs Q E hr h => ?_)
  · obtain ⟨a, u, rfl, _⟩ := h
    rfl
  · obtain ⟨a, u, rfl, hs, hu9, q⟩ := h
    have hu := hu_of hr
    have nd := sc__law_stamps.nd
    refine ⟨_, (pss_one (ps_ret (pe_tup (pa_cons (pe_ix (ix_listK K) (pe_lst (pa_cons pe_int (pa_cons pe_int (pa_cons pe_int (pa_cons pe_int pa_nil))))) (pe_cc c_draw hr (by omega) (by rfl) (pa_cons (pv 0) (pa_cons pe_int pa_nil))) (fun _ _ => rfl)) (pa_cons (pe_ix (ix_listK K) (pe_lst (pa_cons pe_int (pa_cons pe_int (pa_cons pe_int pa_nil)))) (pe_cc c_draw hr (by omega) (by rfl) (pa_cons (pv 0) (pa_cons pe_int pa_nil))) (fun _ _ => rfl)) pa_nil))))), ?_⟩
    walk_at "st"
    refine r_pick (u := u) (intIn 0 4095) rfl (by decide) (by decide) (by omega) (fun Q' h => ?_) ?_
    · walk_at "rd"
      exact h _ _ rfl (int_all (by decide +kernel)) hs (.refl _ _)
    · rintro v H2 ⟨b, rfl, z0, z1⟩ hs2 hb2
      walk_at "st"
      refine r_pick (u := u + 1) (intIn 0 8589934591) rfl (by decide) (by decide) (by omega) (fun Q' h => ?_) ?_
      · walk_at "rd"
        exact h _ _ rfl (int_all (by decide +kernel)) hs2 (.refl _ _)
      · rintro v H3 ⟨t, rfl, t0, t1⟩ hs3 hb3
        walk_at "rd"
        rename_i p hp
        have hb : But a H H3 := hb2.trans hb3
        exact q p b t _ (But.back hs.src hs3.src hb hp) upd_same z0 z1 t0 t1 (hs3.new hp) (hb.trans (Same.but (same_new hp)))
end
/-! ### spans: pairs of an offset and a length -/
def SpanL (H : Hp) (L : Addr) (sp : List (Int × Int)) : Prop := ∃ as : List Addr, H L = some (.lst (as.map V.ref)) ∧ Paired (fun q (s : Int × Int) => H q = some (.tup [.int s.1, .int s.2])) as sp
def spansOk (size : Int) : Int → List (Int × Int) → Prop
  | _, [] => True
  | e, (b, n) :: r => e ≤ b ∧ 1 ≤ n ∧ b + n ≤ size ∧ spansOk size (b + n + 1) r
theorem SpanL.same {H H' : Hp} {L : Addr} {sp : List (Int × Int)} (e : Same H H') (h : SpanL H L sp) : SpanL H' L sp := by
  obtain ⟨as, h1, h2⟩ := h
  exact ⟨as, e _ _ h1, Paired.mapP h2 fun q s z => e _ _ z⟩
theorem SpanL.but {H H' : Hp} {L a : Addr} {sp : List (Int × Int)} (hs : Src H a) (e : But a H H') (h : SpanL H L sp) : SpanL H' L sp := by
  obtain ⟨as, h1, h2⟩ := h
  obtain ⟨l, m, c, ha, _⟩ := hs
  refine ⟨as, e _ _ ?_ h1, Paired.mapP h2 fun q s z => e _ _ ?_ z⟩
  · intro x
    rw [x, ha] at h1
    cases as with
    | nil => simp at h1
    | cons y ys => simp at h1
  · intro x
    rw [x, ha] at z
    cases z
theorem paired_snoc {α β : Type} {R : α → β → Prop} : ∀ {xs : List α} {ys : List β} {x : α} {y : β}, Paired R xs ys → R x y → Paired R (xs ++ [x]) (ys ++ [y])
  | _, _, _, _, .nil, h => .cons h .nil
  | _, _, _, _, .cons r t, h => .cons r (paired_snoc t h)
abbrev s__law_numbers : Stmt := topS 70
abbrev N__law_numbers : List Str := ["_law_source_here", "_law_many", "_law_turn"]
theorem sc__law_numbers : FnScope N__law_numbers ["_law_source_here"] (defScope s__law_numbers) := ⟨rfl, rfl, rfl, by decide +kernel, rfl, by decide +kernel, by decide +kernel⟩
/-! ### the draws of names and numbers -/
theorem glue_ok : ∀ (r : List Str) (acc : Str), charsB acc = true → (∀ z ∈ r, charsB z = true) → charsB ⟨List.foldl (fun a p => a ++ ("/" : Str).cps ++ p.cps) acc.cps r⟩ = true ∧ (⟨List.foldl (fun a p => a ++ ("/" : Str).cps ++ p.cps) acc.cps r⟩ : Str).length = acc.length + (r.map fun z => z.length + 1).sum
  | [], acc, h, _ => ⟨h, rfl⟩
  | z :: r, acc, h, hz => by
    have g := glue_ok r (acc ++ "/" ++ z) (charsB_add (charsB_add h (by decide +kernel)) (hz z List.mem_cons_self)) fun y hy => hz y (List.mem_cons_of_mem _ hy)
    have e1 := len_add (acc ++ "/") z
    have e2 := len_add acc "/"
    have e3 : Str.length "/" = 1 := by decide +kernel
    refine ⟨g.1, ?_⟩
    show (⟨List.foldl (fun a p => a ++ ("/" : Str).cps ++ p.cps) (acc ++ "/" ++ z).cps r⟩ : Str).length = _
    rw [g.2, List.map_cons, List.sum_cons]
    omega
theorem sum_lens {m : Nat} : ∀ {r : List Str}, (∀ z ∈ r, z.length ≤ m) → (r.map fun z => z.length + 1).sum ≤ (m + 1) * r.length
  | [], _ => Nat.le_refl 0
  | z :: r, h => by
    have h1 := h z List.mem_cons_self
    have h2 := sum_lens fun y hy => h y (List.mem_cons_of_mem z hy)
    rw [List.map_cons, List.sum_cons, List.length_cons, Nat.mul_succ]
    omega
/-- parts joined are a name -/
theorem join_name {z : Str} {r : List Str} (h : ∀ y ∈ z :: r, charsB y = true) (h1 : 1 ≤ z.length) (h2 : z.length + (r.map fun z => z.length + 1).sum ≤ 250) : nameB (Txt.join "/" (z :: r)) = true := by
  have g := glue_ok r z (h z List.mem_cons_self) fun y hy => h y (List.mem_cons_of_mem _ hy)
  have e : Txt.join "/" (z :: r) = ⟨List.foldl (fun a p => a ++ ("/" : Str).cps ++ p.cps) z.cps r⟩ := rfl
  rw [e]
  exact name_of (by omega) (by omega) g.1
def rJoinS (K : PySem.W.Frag) : V → List V → Hp → VK → Prop := fun x xs H Q => ∃ a p, ∃ ys : List Str, x = .str a ∧ xs = [.ref p] ∧ (SqL K H p (ys.map V.str) ∨ SqT K H p (ys.map V.str)) ∧ (ys.map (·.length)).sum + ys.length * a.length ≤ 16777216 ∧ Q (.str (Txt.join a ys)) H
theorem mt_joinK {X : Cx} (K : PySem.W.Frag) (h : X.K = K := by rfl) : MtR X "str.join" (rJoinS K) := h ▸ mt_join
section
variable {P : Program} {w : World} {K : PySem.W.Frag} {mg : Str → Option Value} {base : Heap}
theorem join_at {L : Addr} {z : Str} {r : List Str} {H : Hp} {Q : VK} (h : H L = some (.lst ((z :: r).map V.str))) (hc : ∀ y ∈ z :: r, charsB y = true) (h1 : 1 ≤ z.length) (h2 : z.length + (r.map fun z => z.length + 1).sum ≤ 250) (q : nameB (Txt.join "/" (z :: r)) = true → Q (.str (Txt.join "/" (z :: r))) H) : rJoinS K (.str "/") [.ref L] H Q := by
  refine ⟨"/", L, z :: r, rfl, rfl, .inl (SqL.of h), ?_, q (join_name hc h1 h2)⟩
  have e3 : Str.length "/" = 1 := by decide +kernel
  have e4 : ∀ l : List Str, (l.map fun z => z.length + 1).sum = (l.map (·.length)).sum + l.length := by
    intro l
    induction l with
    | nil => rfl
    | cons y l ih =>
      rw [List.map_cons, List.map_cons, List.sum_cons, List.sum_cons, List.length_cons, ih]
      omega
  have := e4 r
  rw [List.map_cons, List.sum_cons, e3, List.length_cons]
  omega
def spNums : Sp := fun vs H Q _ => ∃ (a : Addr) (u : Nat), vs = [.ref a] ∧ SrcB u H a ∧ u ≤ 900000 ∧ ∀ p (ns : List Int) H', H p = none → H' p = some (.lst (ns.map V.int)) → ns.length ≤ 600 → ns.all inByte = true → SrcB (u + 601) H' a → But a H H' → Q (.ref p) H'
theorem ok_numbers {f : Addr} {fd : FuncData} {k : Nat} (F : Fun K "_law_numbers" "_law_numbers" s__law_numbers f fd) (m1 : mg "range" = none) (c_draw : CalT P w K mg base 2 "_law_draw" spDraw) :
    FnOk P w K mg base CX0 (k + 3) f fd ["_law_source_here"] spNums := by
  refine F.ok sc__law_numbers (fun vs H Q E h => ?_) (fun cdv A outer s H vs Q E hr h => ?_)
  · obtain ⟨a, u, rfl, _⟩ := h
    rfl
  · obtain ⟨a, u, rfl, hs, hu9, q⟩ := h
    have hu := hu_of hr
    have nd := sc__law_numbers.nd
    refine ⟨_, (pss_cons (ps_set (i := 1) nd rfl (Or.inl rfl) (pe_ix (ix_listK K) (pe_lst (pa_cons pe_int (pa_cons pe_int (pa_cons pe_int (pa_cons pe_int (pa_cons pe_int (pa_cons pe_int pa_nil))))))) (pe_cc c_draw hr (by omega) (by rfl) (pa_cons (pv 0) (pa_cons pe_int pa_nil))) (fun _ _ => rfl)))
      (pss_one (ps_ret (pe_lc (own := [("_law_turn", 2)]) (g := (gName 2)) (tt := tYes) rfl nd (pi_range1 (by rfl) (by assumption) (pa_cons (pv 1) pa_nil)) (blkOk_by (N := N__law_numbers) (sc := defScope s__law_numbers) (by decide +kernel)) (fun _ _ _ _ _ => (pg_name (i := 2) nd rfl (Or.inl rfl))) (fun _ _ _ _ _ => pts_nil) (fun _ _ _ _ _ => (pe_ix (ix_listK K) (pe_lst (pa_cons pe_int (pa_cons pe_int (pa_cons pe_int (pa_cons pe_int pa_nil))))) (pe_cc c_draw hr (by omega) (by rfl) (pa_cons (pv 0) (pa_cons pe_int pa_nil))) (fun _ _ => rfl))))))), ?_⟩
    walk_at "st"
    refine r_pick (u := u) (intIn 0 600) rfl (by decide) (by decide) (by omega) (fun Q' h => ?_) ?_
    · walk_at "rd"
      exact h _ _ rfl (int_all (by decide +kernel)) hs (.refl _ _)
    · rintro v H1 ⟨n, rfl, n0, n1⟩ hs1 hb1
      obtain ⟨n, rfl⟩ := Int.eq_ofNat_of_zero_le n0
      walk_at "rd"
      intro L hL
      have nL : L ≠ a := hs1.ne hL
      refine lc_it (walk_range (lo := 0) (n := _)) (fun i H' => SrcB (u + 1 + i) H' a ∧ But a H1 H' ∧ ∃ zs : List Int, H' L = some (.lst (zs.map V.int)) ∧ zs.length = i ∧ zs.all inByte = true) ⟨hs1.new hL, Same.but (same_new hL), [], upd_same, rfl, rfl⟩ (fun _ _ _ _ => True.intro) ?_ ?_
      · rintro i v Hc H' hi ⟨hs', hb', zs, hL', hl', hz'⟩ ⟨rfl, hv⟩
        have hi3 : i < 600 := by omega
        walk_at "rd"
        refine ⟨rfl, ?_⟩
        unfold tYes
        dsimp only
        rw [if_pos rfl]
        walk_at "st"
        refine r_pick (u := u + 1 + i) (intIn 0 255) rfl (by decide) (by decide) (by omega) (fun Q' h => ?_) ?_
        · walk_at "rd"
          exact h _ _ rfl (int_all (by decide +kernel)) hs' (.refl _ _)
        · rintro v H2 ⟨z, rfl, z1, z2⟩ hs2 hb2
          have hL2 := hb2 _ _ nL hL'
          refine ⟨_, hL2, Nat.lt_of_le_of_lt (by rw [List.length_map]; omega : _ ≤ 1000) (by decide), ?_, fun b o nb eo => ?_, zs ++ [z], by rw [upd_same, List.map_append]; rfl, by rw [List.length_append, hl']; rfl, ?_⟩
          · obtain ⟨l, m, c, g, r⟩ := hs2
            exact ⟨l, m, c, upd_diff nL.symm g, r⟩
          · rw [upd_ne (ne_of_none eo hL)]
            exact hb2 _ _ nb (hb' _ _ nb eo)
          · rw [List.all_append, hz', Bool.true_and, List.all_cons, List.all_nil, Bool.and_true]
            exact inB z1 (by omega)
      · rintro H3 ⟨hs', hb', zs, hL', hl', hz'⟩
        walk_at "rd"
        exact q L zs H3 (hb1.back hs.src hs1.src hL) hL' (by omega) hz' (hs'.mono (by omega)) (hb1.trans hb')
theorem sp_nums {a : Addr} {u : Nat} {H : Hp} {Q : VK} {E : XK} (h : SrcB u H a) (hu : u ≤ 900000) (k : ∀ p (ns : List Int) H', H p = none → H' p = some (.lst (ns.map V.int)) → ns.length ≤ 600 → ns.all inByte = true → SrcB (u + 601) H' a → But a H H' → Q (.ref p) H') : spNums ([.ref a] ++ []) H Q E := ⟨a, u, rfl, h, hu, k⟩
/-- the tuple p of a size and pieces, new since H -/
def PcsN (H H' : Hp) (p : Addr) (z : Int) (sp : List (Int × List Int)) : Prop := ∃ (d : Addr) (as : List Addr), H p = none ∧ H d = none ∧ H' p = some (.tup [.int z, .ref d]) ∧ H' d = some (.lst (as.map V.ref)) ∧ Paired (fun q (s : Int × List Int) => H q = none ∧ ∃ e, H e = none ∧ H' q = some (.tup [.int s.1, .ref e]) ∧ H' e = some (.lst (s.2.map V.int))) as sp
def spPcs : Sp := fun vs H Q _ => ∃ (a : Addr) (u : Nat), vs = [.ref a] ∧ SrcB u H a ∧ u ≤ 900000 ∧ ∀ p z (sp : List (Int × List Int)) H', PcsN H H' p z sp → 0 ≤ z → z ≤ 4000 → sp.length ≤ 2 → spansOk z 0 (sp.map fun s => (s.1, (s.2.length : Int))) → (∀ s ∈ sp, s.2.all inByte = true ∧ s.2.length ≤ 3) → SrcB (u + 5) H' a → But a H H' → Q (.ref p) H'
theorem dp_ints {K : PySem.W.Frag} {H : Hp} : ∀ l : List Int, DpAll K H (l.map V.int) (l.map PyData.int)
  | [] => .nil
  | _ :: l => .cons (.int _) (dp_ints l)
end
/-! ### a drawn member, as data -/
inductive Mem where
  | file (n : Str) (b t : Int) (ns : List Int)
  | sparse (n : Str) (b t z : Int) (sp : List (Int × List Int))
  | dir (n : Str) (b t : Int)
  | sym (n : Str) (b t : Int) (g : Str)
  | lnk (n : Str) (b t : Int) (g : Str)
def PiecesL (H : Hp) (d : Addr) (sp : List (Int × List Int)) : Prop := ∃ as : List Addr, H d = some (.lst (as.map V.ref)) ∧ Paired (fun q (s : Int × List Int) => ∃ e, H q = some (.tup [.int s.1, .ref e]) ∧ H e = some (.lst (s.2.map V.int))) as sp
theorem PiecesL.same {H H' : Hp} {d : Addr} {sp : List (Int × List Int)} (e : Same H H') (h : PiecesL H d sp) : PiecesL H' d sp := by
  obtain ⟨as, h1, h2⟩ := h
  exact ⟨as, e _ _ h1, Paired.mapP h2 fun q s ⟨x, z1, z2⟩ => ⟨x, e _ _ z1, e _ _ z2⟩⟩
def Mem.At (H : Hp) (p : Addr) : Mem → Prop
  | .file n b t ns => ∃ d, H p = some (.lst [.str "file", .str n, .int b, .int t, .ref d]) ∧ H d = some (.lst (ns.map V.int))
  | .sparse n b t z sp => ∃ d, H p = some (.lst [.str "sparse", .str n, .int b, .int t, .int z, .ref d]) ∧ PiecesL H d sp
  | .dir n b t => H p = some (.lst [.str "directory", .str n, .int b, .int t])
  | .sym n b t g => H p = some (.lst [.str "symlink", .str n, .int b, .int t, .str g])
  | .lnk n b t g => H p = some (.lst [.str "link", .str n, .int b, .int t, .str g])
theorem Mem.At.same {H H' : Hp} {p : Addr} {m : Mem} (e : Same H H') (h : m.At H p) : m.At H' p := by
  cases m with
  | file n b t ns => obtain ⟨d, h1, h2⟩ := h; exact ⟨d, e _ _ h1, e _ _ h2⟩
  | sparse n b t z sp => obtain ⟨d, h1, h2⟩ := h; exact ⟨d, e _ _ h1, h2.same e⟩
  | dir n b t => exact e _ _ h
  | sym n b t g => exact e _ _ h
  | lnk n b t g => exact e _ _ h
/-- the member at p, all of whose objects are new since H -/
def Mem.New (H H' : Hp) (p : Addr) (m : Mem) : Prop := ∀ H2, (∀ b o, H b = none → H' b = some o → H2 b = some o) → m.At H2 p
theorem Mem.New.at {H H' : Hp} {p : Addr} {m : Mem} (h : m.New H H' p) : m.At H' p := h H' fun _ _ _ e => e
theorem Mem.New.to {H H' H2 : Hp} {p : Addr} {m : Mem} (h : m.New H H' p) (y : ∀ b o, H b = none → H' b = some o → H2 b = some o) : m.New H H2 p := fun H3 z => h H3 fun b o n e => z b o n (y b o n e)
theorem Mem.New.from {H0 H H' : Hp} {p : Addr} {m : Mem} (h : m.New H H' p) (y : ∀ b, H b = none → H0 b = none) : m.New H0 H' p := fun H3 z => h H3 fun b o n e => z b o (y b n) e
def stampOk (n : Str) (b t : Int) : Prop := nameB n = true ∧ 0 ≤ b ∧ b ≤ 4095 ∧ 0 ≤ t ∧ t ≤ 8589934591
def Mem.Ok : Mem → Prop
  | .file n b t ns => stampOk n b t ∧ ns.length ≤ 4096 ∧ ns.all inByte = true
  | .sparse n b t z sp => stampOk n b t ∧ 0 ≤ z ∧ z ≤ 4096 ∧ sp.length ≤ 50 ∧ spansOk z 0 (sp.map fun s => (s.1, (s.2.length : Int))) ∧ ∀ s ∈ sp, s.2.all inByte = true
  | .dir n b t => stampOk n b t
  | .sym n b t g => stampOk n b t ∧ nameB g = true
  | .lnk n b t g => stampOk n b t ∧ nameB g = true
theorem spansOk_all {z : Int} : ∀ {e : Int} {sp : List (Int × Int)}, 0 ≤ e → spansOk z e sp → ∀ s ∈ sp, 0 ≤ s.1 ∧ 1 ≤ s.2 ∧ s.1 + s.2 ≤ z
  | _, [], _, _, s, hs => nomatch hs
  | e, (b, n) :: r, h, k, s, hs => by
    rcases List.mem_cons.mp hs with rfl | hs
    · exact ⟨Int.le_trans h k.1, k.2.1, k.2.2.1⟩
    · exact spansOk_all (e := b + n + 1) (by have := k.1; have := k.2.1; omega) k.2.2.2 s hs
theorem paired_at {α β : Type} {R : α → β → Prop} : ∀ {xs : List α} {ys : List β}, Paired R xs ys → ∀ {i : Nat} {x : α}, xs[i]? = some x → ∃ y, ys[i]? = some y ∧ R x y
  | _, _, .nil, i, x, h => by simp at h
  | _, _, .cons r t, 0, x, h => by
    rw [List.getElem?_cons_zero] at h
    cases h
    exact ⟨_, rfl, r⟩
  | _, _, .cons r t, i + 1, x, h => by
    rw [List.getElem?_cons_succ] at h
    exact paired_at t h
theorem take_snoc {α : Type} {l : List α} {i : Nat} {x : α} (h : l[i]? = some x) : l.take (i + 1) = l.take i ++ [x] := by
  rw [List.take_add_one, h]
  rfl
section
variable {P : Program} {w : World} {K : PySem.W.Frag} {mg : Str → Option Value} {base : Heap}
/-- at most two pieces, and few bytes -/
def Mem.Two : Mem → Prop
  | .file _ _ _ ns => ns.length ≤ 600
  | .sparse _ _ _ z sp => sp.length ≤ 2 ∧ (∀ s ∈ sp, s.2.length ≤ 3) ∧ z ≤ 4000
  | _ => True
/-- a member as a tuple -/
def Mem.Tu (H : Hp) (p : Addr) : Mem → Prop
  | .file n b t ns => ∃ d, H p = some (.tup [.str "file", .str n, .int b, .int t, .ref d]) ∧ H d = some (.lst (ns.map V.int))
  | .sparse n b t z sp => ∃ q d, H p = some (.tup [.str "sparse", .str n, .int b, .int t, .ref q]) ∧ H q = some (.tup [.int z, .ref d]) ∧ PiecesL H d sp
  | .dir n b t => H p = some (.tup [.str "directory", .str n, .int b, .int t])
  | .sym n b t g => H p = some (.tup [.str "symlink", .str n, .int b, .int t, .str g])
  | .lnk n b t g => H p = some (.tup [.str "link", .str n, .int b, .int t, .str g])
theorem Mem.Tu.same {H H' : Hp} {p : Addr} {m : Mem} (e : Same H H') (h : m.Tu H p) : m.Tu H' p := by
  cases m with
  | file n b t ns => obtain ⟨d, h1, h2⟩ := h; exact ⟨d, e _ _ h1, e _ _ h2⟩
  | sparse n b t z sp => obtain ⟨q, d, h1, h2, h3⟩ := h; exact ⟨q, d, e _ _ h1, e _ _ h2, h3.same e⟩
  | dir n b t => exact e _ _ h
  | sym n b t g => exact e _ _ h
  | lnk n b t g => exact e _ _ h
/-- the tuple at p, all of whose objects are new since H -/
def Mem.TuN (H H' : Hp) (p : Addr) (m : Mem) : Prop := ∀ H2, (∀ b o, H b = none → H' b = some o → H2 b = some o) → m.Tu H2 p
theorem Mem.TuN.at {H H' : Hp} {p : Addr} {m : Mem} (h : m.TuN H H' p) : m.Tu H' p := h H' fun _ _ _ e => e
theorem Mem.TuN.to {H H' H2 : Hp} {p : Addr} {m : Mem} (h : m.TuN H H' p) (y : ∀ b o, H b = none → H' b = some o → H2 b = some o) : m.TuN H H2 p := fun H3 z => h H3 fun b o n e => z b o n (y b o n e)
theorem Mem.TuN.from {H0 H H' : Hp} {p : Addr} {m : Mem} (h : m.TuN H H' p) (y : ∀ b, H b = none → H0 b = none) : m.TuN H0 H' p := fun H3 z => h H3 fun b o n e => z b o (y b n) e
theorem src_strs {H : Hp} {a N : Addr} {zs : List Str} (hs : Src H a) (h : H N = some (.lst (zs.map V.str))) : N ≠ a := fun e => by
  obtain ⟨x, y, z, h9, _⟩ := hs
  rw [e, h9] at h
  injection h with h
  injection h with h
  cases zs with
  | nil => cases h
  | cons y r => injection h with h _; cases h
theorem back_fun {a : Addr} {H H' : Hp} (hs : Src H a) (hs' : Src H' a) (b : But a H H') : ∀ x, H' x = none → H x = none := fun _ h => But.back hs hs' b h
end
abbrev s_is_data : Stmt := topS 26
abbrev N_is_data : List Str := ["thing"]
theorem sc_is_data : FnScope N_is_data ["thing"] (defScope s_is_data) := ⟨rfl, rfl, rfl, by decide +kernel, rfl, by decide +kernel, by decide +kernel⟩
abbrev s_is_size : Stmt := topS 27
abbrev N_is_size : List Str := ["thing"]
theorem sc_is_size : FnScope N_is_size ["thing"] (defScope s_is_size) := ⟨rfl, rfl, rfl, by decide +kernel, rfl, by decide +kernel, by decide +kernel⟩
abbrev s_is_mode : Stmt := topS 28
abbrev N_is_mode : List Str := ["thing"]
theorem sc_is_mode : FnScope N_is_mode ["thing"] (defScope s_is_mode) := ⟨rfl, rfl, rfl, by decide +kernel, rfl, by decide +kernel, by decide +kernel⟩
abbrev s_is_time : Stmt := topS 29
abbrev N_is_time : List Str := ["thing"]
theorem sc_is_time : FnScope N_is_time ["thing"] (defScope s_is_time) := ⟨rfl, rfl, rfl, by decide +kernel, rfl, by decide +kernel, by decide +kernel⟩
abbrev s_are_spans : Stmt := topS 32
abbrev N_are_spans : List Str := ["size", "spans", "least", "offset", "length"]
theorem sc_are_spans : FnScope N_are_spans ["size", "spans"] (defScope s_are_spans) := ⟨rfl, rfl, rfl, by decide +kernel, rfl, by decide +kernel, by decide +kernel⟩
theorem paired_mapR {α β γ : Type} {R : α → γ → Prop} {g : β → γ} : ∀ {xs : List α} {ys : List β}, Paired (fun x y => R x (g y)) xs ys → Paired R xs (ys.map g)
  | _, _, .nil => .nil
  | _, _, .cons r t => .cons r (paired_mapR t)
/-! ### the checks, where nothing is refused -/
section
variable {P : Program} {w : World} {K : PySem.W.Frag} {mg : Str → Option Value} {base : Heap}
def spCName : Sp := fun vs H Q _ => ∃ z : Str, vs = [.str z] ∧ nameB z = true ∧ ∀ H', Same H H' → Q .non H'
theorem sp_cname {z : Str} {H : Hp} {Q : VK} {E : XK} (h : nameB z = true) (k : ∀ H', Same H H' → Q .non H') : spCName ([.str z] ++ []) H Q E := ⟨z, rfl, h, k⟩
theorem ok_cname {f : Addr} {fd : FuncData} {k : Nat} (F : Fun K "check_name" "check_name" s_check_name f fd) (c_is_name : CalT P w K mg base 2 "is_name" (spName K)) : FnOk P w K mg base CX0 (k + 3) f fd ["thing"] spCName := by
  refine F.ok sc_check_name (fun vs H Q E h => ?_) (fun cdv A outer s H vs Q E hr h => ?_)
  · obtain ⟨z, rfl, _⟩ := h
    rfl
  · obtain ⟨z, rfl, hz, q⟩ := h
    have hu := hu_of hr
    have nd := sc_check_name.nd
    have hl : z.length ≤ 5000 := by have := (of_name hz).2.1; omega
    refine ⟨_, (pss_one (ps_if (pt_not (pt_val (pe_cc c_is_name hr (by omega) (by rfl) (pa_cons (pv 0) pa_nil))))
        (pss_one ps_never)
        pss_nil)), ?_⟩
    walk_at "rd"
    refine sp_name (.inl ⟨z, rfl, hl⟩) (fun H1 e1 => ?_)
    have hv : nameV (.str z) = true := hz
    rw [hv]
    walk_at "rd"
    exact q _ e1
def spIsData : Sp := fun vs H Q _ => ∃ y : Array UInt8, vs = [.byt y] ∧ y.size ≤ 4096 ∧ Q (.bl true) H
theorem sp_isdata {y : Array UInt8} {H : Hp} {Q : VK} {E : XK} (h : y.size ≤ 4096) (k : Q (.bl true) H) : spIsData ([.byt y] ++ []) H Q E := ⟨y, rfl, h, k⟩
theorem ok_isdata {f : Addr} {fd : FuncData} {k : Nat} {t1 : Tok} (F : Fun K "is_data" "is_data" s_is_data f fd) (m1 : mg "isinstance" = none) (m2 : mg "bytes" = none) (m3 : mg "len" = none) (m_MB : mg "MOST_BYTES" = some (.int 4096 t1)) : FnOk P w K mg base CX0 (k + 2) f fd ["thing"] spIsData := by
  refine F.ok sc_is_data (fun vs H Q E h => ?_) (fun cdv A outer s H vs Q E hr h => ?_)
  · obtain ⟨z, rfl, _⟩ := h
    rfl
  · obtain ⟨y, rfl, hz, q⟩ := h
    have hu := hu_of hr
    have nd := sc_is_data.nd
    refine ⟨_, (pss_one (ps_ret (pe_and (pe_callB (call_isiK1 K) (by rfl) (by assumption) (by decide +kernel) (pa_cons (pv 0) (pa_cons (pe_bltn (v := .ty "bytes") (by rfl) (by assumption) (by decide +kernel) rfl) pa_nil))) (pe_one (pe_cmpR op_le (pe_callB call_rLenY (by rfl) (by assumption) (by decide +kernel) (pa_cons (pv 0) pa_nil)) (pe_glob (v := .int 4096) (by rfl) m_MB (by first | exact rfl | exact ⟨_, rfl⟩)) (nomark _)))))), ?_⟩
    walk_at "rd"
    rw [decide_eq_true (by omega : (y.size : Int) ≤ 4096)]
    exact q
def spCData : Sp := fun vs H Q _ => ∃ y : Array UInt8, vs = [.byt y] ∧ y.size ≤ 4096 ∧ ∀ H', Same H H' → Q .non H'
theorem sp_cdata {y : Array UInt8} {H : Hp} {Q : VK} {E : XK} (h : y.size ≤ 4096) (k : ∀ H', Same H H' → Q .non H') : spCData ([.byt y] ++ []) H Q E := ⟨y, rfl, h, k⟩
theorem ok_cdata {f : Addr} {fd : FuncData} {k : Nat} (F : Fun K "check_data" "check_data" s_check_data f fd) (c_isdata : CalT P w K mg base 2 "is_data" spIsData) : FnOk P w K mg base CX0 (k + 3) f fd ["thing"] spCData := by
  refine F.ok sc_check_data (fun vs H Q E h => ?_) (fun cdv A outer s H vs Q E hr h => ?_)
  · obtain ⟨z, rfl, _⟩ := h
    rfl
  · obtain ⟨y, rfl, hz, q⟩ := h
    have hu := hu_of hr
    have nd := sc_check_data.nd
    refine ⟨_, (pss_one (ps_if (pt_not (pt_val (pe_cc c_isdata hr (by omega) (by rfl) (pa_cons (pv 0) pa_nil))))
        (pss_one ps_never)
        pss_nil)), ?_⟩
    walk_at "rd"
    refine sp_isdata hz ?_
    walk_at "rd"
    exact q _ (Same.refl _)
def spIn (lo hi : Int) : Sp := fun vs H Q _ => ∃ i : Int, vs = [.int i] ∧ Q (.bl (decide (lo ≤ i) && decide (i ≤ hi))) H
theorem sp_in {lo hi i : Int} {H : Hp} {Q : VK} {E : XK} (h0 : lo ≤ i) (h1 : i ≤ hi) (k : Q (.bl true) H) : spIn lo hi ([.int i] ++ []) H Q E := ⟨i, rfl, by rw [decide_eq_true h0, decide_eq_true h1]; exact k⟩
theorem ok_issize {f : Addr} {fd : FuncData} {k : Nat} {t1 : Tok} (F : Fun K "is_size" "is_size" s_is_size f fd) (m_MB : mg "MOST_BYTES" = some (.int 4096 t1)) (c_within : CalT P w K mg base 2 "is_integer_within" spWithin) : FnOk P w K mg base CX0 (k + 3) f fd ["thing"] (spIn 0 4096) := by
  refine F.ok sc_is_size (fun vs H Q E h => ?_) (fun cdv A outer s H vs Q E hr h => ?_)
  · obtain ⟨z, rfl, _⟩ := h
    rfl
  · obtain ⟨y, rfl, q⟩ := h
    have hu := hu_of hr
    have nd := sc_is_size.nd
    refine ⟨_, (pss_one (ps_ret (pe_cc c_within hr (by omega) (by rfl) (pa_cons (pv 0) (pa_cons pe_int (pa_cons (pe_glob (v := .int 4096) (by rfl) m_MB (by first | exact rfl | exact ⟨_, rfl⟩)) pa_nil)))))), ?_⟩
    walk_at "rd"
    refine sp_within ?_
    exact q
theorem ok_ismode {f : Addr} {fd : FuncData} {k : Nat} {t1 : Tok} (F : Fun K "is_mode" "is_mode" s_is_mode f fd) (m_LM : mg "LAST_MODE" = some (.int 4095 t1)) (c_within : CalT P w K mg base 2 "is_integer_within" spWithin) : FnOk P w K mg base CX0 (k + 3) f fd ["thing"] (spIn 0 4095) := by
  refine F.ok sc_is_mode (fun vs H Q E h => ?_) (fun cdv A outer s H vs Q E hr h => ?_)
  · obtain ⟨z, rfl, _⟩ := h
    rfl
  · obtain ⟨y, rfl, q⟩ := h
    have hu := hu_of hr
    have nd := sc_is_mode.nd
    refine ⟨_, (pss_one (ps_ret (pe_cc c_within hr (by omega) (by rfl) (pa_cons (pv 0) (pa_cons pe_int (pa_cons (pe_glob (v := .int 4095) (by rfl) m_LM (by first | exact rfl | exact ⟨_, rfl⟩)) pa_nil)))))), ?_⟩
    walk_at "rd"
    refine sp_within ?_
    exact q
theorem ok_istime {f : Addr} {fd : FuncData} {k : Nat} {t1 : Tok} (F : Fun K "is_time" "is_time" s_is_time f fd) (m_LT : mg "LAST_TIME" = some (.int 8589934591 t1)) (c_within : CalT P w K mg base 2 "is_integer_within" spWithin) : FnOk P w K mg base CX0 (k + 3) f fd ["thing"] (spIn 0 8589934591) := by
  refine F.ok sc_is_time (fun vs H Q E h => ?_) (fun cdv A outer s H vs Q E hr h => ?_)
  · obtain ⟨z, rfl, _⟩ := h
    rfl
  · obtain ⟨y, rfl, q⟩ := h
    have hu := hu_of hr
    have nd := sc_is_time.nd
    refine ⟨_, (pss_one (ps_ret (pe_cc c_within hr (by omega) (by rfl) (pa_cons (pv 0) (pa_cons pe_int (pa_cons (pe_glob (v := .int 8589934591) (by rfl) m_LT (by first | exact rfl | exact ⟨_, rfl⟩)) pa_nil)))))), ?_⟩
    walk_at "rd"
    refine sp_within ?_
    exact q
def spStamp : Sp := fun vs H Q _ => ∃ b t : Int, vs = [.int b, .int t] ∧ 0 ≤ b ∧ b ≤ 4095 ∧ 0 ≤ t ∧ t ≤ 8589934591 ∧ ∀ H', Same H H' → Q .non H'
theorem sp_stamp {b t : Int} {H : Hp} {Q : VK} {E : XK} (h0 : 0 ≤ b) (h1 : b ≤ 4095) (h2 : 0 ≤ t) (h3 : t ≤ 8589934591) (k : ∀ H', Same H H' → Q .non H') : spStamp ([.int b, .int t] ++ []) H Q E := ⟨b, t, rfl, h0, h1, h2, h3, k⟩
theorem ok_stamp {f : Addr} {fd : FuncData} {k : Nat} (F : Fun K "check_mode_and_time" "check_mode_and_time" s_check_mode_and_time f fd) (c_ismode : CalT P w K mg base 3 "is_mode" (spIn 0 4095)) (c_istime : CalT P w K mg base 3 "is_time" (spIn 0 8589934591)) : FnOk P w K mg base CX0 (k + 4) f fd ["mode", "time"] spStamp := by
  refine F.ok sc_check_mode_and_time (fun vs H Q E h => ?_) (fun cdv A outer s H vs Q E hr h => ?_)
  · obtain ⟨b, t, rfl, _⟩ := h
    rfl
  · obtain ⟨b, t, rfl, h0, h1, h2, h3, q⟩ := h
    have hu := hu_of hr
    have nd := sc_check_mode_and_time.nd
    refine ⟨_, (pss_cons (ps_if (pt_not (pt_val (pe_cc c_ismode hr (by omega) (by rfl) (pa_cons (pv 0) pa_nil))))
        (pss_one ps_never)
        pss_nil)
      (pss_one (ps_if (pt_not (pt_val (pe_cc c_istime hr (by omega) (by rfl) (pa_cons (pv 1) pa_nil))))
        (pss_one ps_never)
        pss_nil))), ?_⟩
    walk_at "rd"
    refine sp_in h0 h1 ?_
    walk_at "rd"
    refine sp_in h2 h3 ?_
    walk_at "rd"
    exact q _ (Same.refl _)
/-! ### pieces, as the program has them: a tuple of pairs of an int and bytes -/
def PcsT (H : Hp) (p : Addr) (ps : List (Int × Array UInt8)) : Prop := ∃ as : List Addr, H p = some (.tup (as.map V.ref)) ∧ Paired (fun q (s : Int × Array UInt8) => H q = some (.tup [.int s.1, .byt s.2])) as ps
def pcsOk (z : Int) (ps : List (Int × Array UInt8)) : Prop := spansOk z 0 (ps.map fun s => (s.1, (s.2.size : Int)))
theorem PcsT.same {H H' : Hp} {p : Addr} {ps : List (Int × Array UInt8)} (e : Same H H') (h : PcsT H p ps) : PcsT H' p ps := by
  obtain ⟨as, h1, h2⟩ := h
  exact ⟨as, e _ _ h1, Paired.mapP h2 fun q s z => e _ _ z⟩
def spPiece : Sp := fun vs H Q _ => ∃ (p : Addr) (o : Int) (y : Array UInt8), vs = [.ref p] ∧ H p = some (.tup [.int o, .byt y]) ∧ 0 ≤ o ∧ o ≤ 4096 ∧ Q (.bl true) H
theorem sp_piece {p : Addr} {o : Int} {y : Array UInt8} {H : Hp} {Q : VK} {E : XK} (hp : H p = some (.tup [.int o, .byt y])) (h1 : 0 ≤ o) (h2 : o ≤ 4096) (k : Q (.bl true) H) : spPiece ([.ref p] ++ []) H Q E := ⟨p, o, y, rfl, hp, h1, h2, k⟩
theorem ok_piece {f : Addr} {fd : FuncData} {k : Nat} {t1 : Tok} (F : Fun K "is_piece" "is_piece" s_is_piece f fd) (m1 : mg "isinstance" = none) (m2 : mg "tuple" = none) (m3 : mg "len" = none) (m4 : mg "bytes" = none) (m_MB : mg "MOST_BYTES" = some (.int 4096 t1)) (c_within : CalT P w K mg base 2 "is_integer_within" spWithin) :
    FnOk P w K mg base CX0 (k + 3) f fd ["thing"] spPiece := by
  refine F.ok sc_is_piece (fun vs H Q E h => ?_) (fun cdv A outer s H vs Q E hr h => ?_)
  · obtain ⟨p, o, y, rfl, _⟩ := h
    rfl
  · obtain ⟨p, o, y, rfl, hp, h1, h2, q⟩ := h
    have hu := hu_of hr
    have nd := sc_is_piece.nd
    refine ⟨_, (pss_cons (ps_if (PW.pt (pw_or (pt_not (pt_val (pe_callB (call_isiK1 K) (by rfl) (by assumption) (by decide +kernel) (pa_cons (pv 0) (pa_cons (pe_bltn (v := .ty "tuple") (by rfl) (by assumption) (by decide +kernel) rfl) pa_nil))))) (pw_or1 (pt_cmpR op_ne (pe_callB (call_lenK K) (by rfl) (by assumption) (by decide +kernel) (pa_cons (pv 0) pa_nil)) pe_int (nomark _)))))
        (pss_one (ps_ret pe_bl))
        pss_nil)
      (pss_one (ps_ret (pe_and (pe_cc c_within hr (by omega) (by rfl) (pa_cons (pe_ix (ix_tupK K) (pv 0) pe_int (fun _ _ => rfl)) (pa_cons pe_int (pa_cons (pe_glob (v := .int 4096) (by rfl) m_MB (by first | exact rfl | exact ⟨_, rfl⟩)) pa_nil)))) (pe_one (pe_callB (call_isiK1 K) (by rfl) (by assumption) (by decide +kernel) (pa_cons (pe_ix (ix_tupK K) (pv 0) pe_int (fun _ _ => rfl)) (pa_cons (pe_bltn (v := .ty "bytes") (by rfl) (by assumption) (by decide +kernel) rfl) pa_nil)))))))), ?_⟩
    walk_at "rd"
    refine sp_within ?_
    rw [decide_eq_true h1, decide_eq_true h2, Bool.true_and]
    walk_at "rd"
    exact q
/-! ### spans: a list of pairs of ints -/
def SpnL (H : Hp) (p : Addr) (sp : List (Int × Int)) : Prop := ∃ as : List Addr, H p = some (.lst (as.map V.ref)) ∧ Paired (fun q (s : Int × Int) => H q = some (.tup [.int s.1, .int s.2])) as sp
def spASpans : Sp := fun vs H Q _ => ∃ (z : Int) (p : Addr) (sp : List (Int × Int)), vs = [.int z, .ref p] ∧ SpnL H p sp ∧ spansOk z 0 sp ∧ z ≤ 4096 ∧ sp.length ≤ 50 ∧ ∀ H', Same H H' → Q (.bl true) H'
theorem sp_aspans {z : Int} {p : Addr} {sp : List (Int × Int)} {H : Hp} {Q : VK} {E : XK} (hp : SpnL H p sp) (h1 : spansOk z 0 sp) (h2 : z ≤ 4096) (h3 : sp.length ≤ 50) (k : ∀ H', Same H H' → Q (.bl true) H') : spASpans ([.int z, .ref p] ++ []) H Q E := ⟨z, p, sp, rfl, hp, h1, h2, h3, k⟩
theorem ok_aspans {f : Addr} {fd : FuncData} {k : Nat} {t1 : Tok} (F : Fun K "are_spans" "are_spans" s_are_spans f fd) (m3 : mg "len" = none) (m_MP : mg "MOST_PIECES" = some (.int 50 t1)) : FnOk P w K mg base CX0 (k + 2) f fd ["size", "spans"] spASpans := by
  refine F.ok sc_are_spans (fun vs H Q E h => ?_) (fun cdv A outer s H vs Q E hr h => ?_)
  · obtain ⟨z, p, ps, rfl, _⟩ := h
    rfl
  · obtain ⟨z, p, ps, rfl, ⟨as, hp, hpd⟩, hok, hz, hn, q⟩ := h
    have hu := hu_of hr
    have nd := sc_are_spans.nd
    have hlen : (as.map V.ref).length = ps.length := by rw [List.length_map]; exact hpd.length
    refine ⟨_, (pss_cons (ps_if (pt_cmpR op_gt (pe_callB (call_lenK K) (by rfl) (by assumption) (by decide +kernel) (pa_cons (pv 1) pa_nil)) (pe_glob (v := .int 50) (by rfl) m_MP (by first | exact rfl | exact ⟨_, rfl⟩)) (nomark _))
        (pss_one (ps_ret pe_bl))
        pss_nil)
      (pss_cons (ps_set (i := 2) nd rfl (Or.inl rfl) pe_int)
      (pss_cons (ps_for PassesOwn.never rfl (pi_list (pv 1)) (pg_tupK K (pg_tup rfl (pgs_cons (pg_name (i := 3) nd rfl (Or.inl rfl)) (pgs_cons (pg_name (i := 4) nd rfl (Or.inl rfl)) pgs_nil))))
        (pss_cons (ps_if (PW.pt (pw_or (pt_cmpR op_lt (pv 3) (pv 2) (nomark _)) (pw_or (pt_cmpR op_lt (pv 4) pe_int (nomark _)) (pw_or1 (pt_cmpR op_gt (pe_op op_add (pv 3) (pv 4)) (pv 0) (nomark _))))))
        (pss_one (ps_ret pe_bl))
        pss_nil)
      (pss_one (ps_set (i := 2) nd rfl (Or.inl rfl) (pe_op op_add (pe_op op_add (pv 3) (pv 4)) pe_int)))))
      (pss_one (ps_ret pe_bl))))), ?_⟩
    walk_at "rd"
    refine r_iteD (fun h => absurd h (by omega)) (fun _ => ?_)
    walk_at "rd"
    refine for_it (walk_list (xs := as.map V.ref)) (fun i σ H' => ∃ (l : Int) (v1 v2 : Option V), σ = [some (.int z), some (.ref p), some (.int l), v1, v2] ∧ Same H H' ∧ 0 ≤ l ∧ spansOk z l (ps.drop i)) ?_ (fun i σ H' _ ⟨_, _, _, _, e, _⟩ => SqL.of (e _ _ hp)) ?_ ?_
    · exact ⟨0, _, _, rfl, Same.refl _, Int.le_refl 0, hok⟩
    · rintro i x σ Hc H' hi ⟨l, v1, v2, rfl, e, hl, hs⟩ ⟨rfl, hx⟩
      rw [List.getElem?_map] at hx
      obtain ⟨qa, hqa, rfl⟩ : ∃ qa, as[i]? = some qa ∧ V.ref qa = x := by
        cases e : as[i]? with
        | none => rw [e] at hx; cases hx
        | some qa => rw [e] at hx; exact ⟨qa, rfl, Option.some.inj hx⟩
      obtain ⟨s, hsi, hqt⟩ := paired_at hpd hqa
      have hq' := e _ _ hqt
      have hdrop : ps.drop i = s :: ps.drop (i + 1) := by
        obtain ⟨hlt, hge⟩ := List.getElem?_eq_some_iff.mp hsi
        rw [← hge]
        exact List.drop_eq_getElem_cons hlt
      rw [hdrop] at hs
      obtain ⟨g1, g2, g3, g4⟩ := hs
      have g1' : l ≤ s.1 := g1
      have g2' : 1 ≤ s.2 := g2
      have g3' : s.1 + s.2 ≤ z := g3
      walk_at "rd"
      refine r_iteD (fun h => absurd h (by omega)) (fun _ => ?_)
      walk_at "rd"
      refine r_iteD (fun h => absurd h (by omega)) (fun _ => ?_)
      walk_at "rd"
      refine r_iteD (fun h => absurd h (by omega)) (fun _ => ?_)
      walk_at "rd"
      exact ⟨_, _, _, rfl, e, by omega, g4⟩
    · rintro σ Hc ⟨l, v1, v2, rfl, e, _⟩
      walk_at "rd"
      exact q _ e
def spAPieces : Sp := fun vs H Q _ => ∃ (z : Int) (p : Addr) (ps : List (Int × Array UInt8)), vs = [.int z, .ref p] ∧ PcsT H p ps ∧ pcsOk z ps ∧ z ≤ 4096 ∧ ps.length ≤ 50 ∧ ∀ H', Same H H' → Q (.bl true) H'
theorem sp_apieces {z : Int} {p : Addr} {ps : List (Int × Array UInt8)} {H : Hp} {Q : VK} {E : XK} (hp : PcsT H p ps) (h1 : pcsOk z ps) (h2 : z ≤ 4096) (h3 : ps.length ≤ 50) (k : ∀ H', Same H H' → Q (.bl true) H') : spAPieces ([.int z, .ref p] ++ []) H Q E := ⟨z, p, ps, rfl, hp, h1, h2, h3, k⟩
theorem ok_apieces {f : Addr} {fd : FuncData} {k : Nat} (F : Fun K "are_pieces" "are_pieces" s_are_pieces f fd) (m3 : mg "len" = none) (m4 : mg "all" = none) (c_piece : CalT P w K mg base 3 "is_piece" spPiece) (c_aspans : CalT P w K mg base 2 "are_spans" spASpans) :
    FnOk P w K mg base CX0 (k + 4) f fd ["size", "pieces"] spAPieces := by
  refine F.ok sc_are_pieces (fun vs H Q E h => ?_) (fun cdv A outer s H vs Q E hr h => ?_)
  · obtain ⟨z, p, ps, rfl, _⟩ := h
    rfl
  · obtain ⟨z, p, ps, rfl, ⟨as, hp, hpd⟩, hok, hz, hn, q⟩ := h
    have hu := hu_of hr
    have nd := sc_are_pieces.nd
    have hal : as.length = ps.length := hpd.length
    have hall : ∀ s ∈ ps, 0 ≤ s.1 ∧ 1 ≤ (s.2.size : Int) ∧ s.1 + (s.2.size : Int) ≤ z := fun s hs => spansOk_all (Int.le_refl 0) hok (s.1, (s.2.size : Int)) (List.mem_map.mpr ⟨s, hs, rfl⟩)
    refine ⟨_, (pss_cons (ps_if (pt_not (pt_val (pe_callB (call_allK K) (by rfl) (by assumption) (by decide +kernel) (pa_cons (pe_lc (own := [("piece", 4)]) (g := (gName 4)) (tt := tYes) rfl nd (pi_tup (pv 1)) (blkOk_by (N := N_are_pieces) (sc := defScope s_are_pieces) (by decide +kernel)) (fun _ _ _ _ _ => (pg_name (i := 4) nd rfl (Or.inl rfl))) (fun _ _ _ _ _ => pts_nil) (fun _ _ _ _ _ => (pe_cc c_piece hr (by omega) (by rfl) (pa_cons (pv 4) pa_nil)))) pa_nil))))
        (pss_one (ps_ret pe_bl))
        pss_nil)
      (pss_one (ps_ret (pe_cc c_aspans hr (by omega) (by rfl) (pa_cons (pv 0) (pa_cons (pe_lc (own := [("offset", 2), ("data", 3)]) (g := (gTup K 2 (gCons (gName 2) (gCons (gName 3) gNil)))) (tt := tYes) rfl nd (pi_tup (pv 1)) (blkOk_by (N := N_are_pieces) (sc := defScope s_are_pieces) (by decide +kernel)) (fun _ _ _ _ _ => (pg_tupK K (pg_tup rfl (pgs_cons (pg_name (i := 2) nd rfl (Or.inl rfl)) (pgs_cons (pg_name (i := 3) nd rfl (Or.inl rfl)) pgs_nil))))) (fun _ _ _ _ _ => pts_nil) (fun _ _ _ _ _ => (pe_tup (pa_cons (pv 2) (pa_cons (pe_callB call_rLenY (by rfl) (by assumption) (by decide +kernel) (pa_cons (pv 3) pa_nil)) pa_nil))))) pa_nil)))))), ?_⟩
    walk_at "rd"
    intro D hD
    refine lc_it (walk_tup (xs := as.map V.ref)) (fun i H' => Same H H' ∧ H' D = some (.lst ((List.replicate i true).map V.bl))) ⟨same_new hD, upd_same⟩ (fun i H' _ ⟨e, _⟩ => SqT.of (e _ _ hp)) ?_ ?_
    · rintro i x Hc H' hi ⟨e, hb⟩ ⟨rfl, hx⟩
      rw [List.getElem?_map] at hx
      obtain ⟨qa, hqa, rfl⟩ : ∃ qa, as[i]? = some qa ∧ V.ref qa = x := by
        cases e : as[i]? with
        | none => rw [e] at hx; cases hx
        | some qa => rw [e] at hx; exact ⟨qa, rfl, Option.some.inj hx⟩
      obtain ⟨s, hsi, hqt⟩ := paired_at hpd hqa
      have hq' := e _ _ hqt
      obtain ⟨a1, a2, a3⟩ := hall s (List.mem_of_getElem? hsi)
      rw [List.length_map] at hi
      walk_at "rd"
      refine ⟨rfl, ?_⟩
      unfold tYes
      dsimp only
      rw [if_pos rfl]
      walk_at "rd"
      refine sp_piece hq' a1 (by omega) ?_
      refine ⟨_, hb, ?_, fun b o eo => ?_, ?_⟩
      · rw [List.length_map, List.length_replicate]
        exact Nat.lt_of_lt_of_le (by omega : i < 51) (by decide)
      · rw [upd_ne (ne_of_none eo hD)]
        exact e _ _ eo
      · rw [upd_same, List.replicate_succ', List.map_append]
        rfl
    · rintro H1 ⟨e, hb⟩
      refine r_nil ?_
      refine r_all (bs := List.replicate (as.map V.ref).length true) (SqL.of hb) ?_
      rw [show (List.replicate (as.map V.ref).length true).all id = true from by simp [List.all_replicate]]
      have hp1 := e _ _ hp
      walk_at "rd"
      intro D2 hD2
      refine lc_it (walk_tup (xs := as.map V.ref)) (fun i H' => Same H1 H' ∧ ∃ bs : List Addr, H' D2 = some (.lst (bs.map V.ref)) ∧ Paired (fun q (s : Int × Array UInt8) => q ≠ D2 ∧ H' q = some (.tup [.int s.1, .int (s.2.size : Int)])) bs (ps.take i)) ?_ (fun i H' _ ⟨e', _⟩ => SqT.of (e' _ _ hp1)) ?_ ?_
      · exact ⟨same_new hD2, [], upd_same, .nil⟩
      · rintro i x Hc H' hi ⟨e', bs, hb', hbp⟩ ⟨rfl, hx⟩
        rw [List.getElem?_map] at hx
        obtain ⟨qa, hqa, rfl⟩ : ∃ qa, as[i]? = some qa ∧ V.ref qa = x := by
          cases e : as[i]? with
          | none => rw [e] at hx; cases hx
          | some qa => rw [e] at hx; exact ⟨qa, rfl, Option.some.inj hx⟩
        obtain ⟨s, hsi, hqt⟩ := paired_at hpd hqa
        have hq' := e' _ _ (e _ _ hqt)
        obtain ⟨a1, a2, a3⟩ := hall s (List.mem_of_getElem? hsi)
        have hy : s.2.size ≤ 100000 := by omega
        walk_at "rd"
        refine ⟨rfl, ?_⟩
        unfold tYes
        dsimp only
        rw [if_pos rfl]
        walk_at "rd"
        rename_i T hT
        have nTD : T ≠ D2 := (ne_of_none hb' hT).symm
        have hbl : (bs.map V.ref).length ≤ 50 := by
          rw [List.length_map, hbp.length, List.length_take]
          omega
        refine ⟨_, upd_old hT hb', Nat.lt_of_le_of_lt hbl (by decide), fun b o eo => ?_, bs ++ [T], by rw [upd_same, List.map_append]; rfl, ?_⟩
        · have h2 := e' _ _ eo
          rw [upd_ne (ne_of_none eo hD2), upd_ne (ne_of_none h2 hT)]
          exact h2
        · rw [take_snoc hsi]
          refine paired_snoc (Paired.mapP hbp fun y s ⟨n1, g1⟩ => ⟨n1, ?_⟩) ⟨nTD, ?_⟩
          · rw [upd_ne n1, upd_ne (ne_of_none g1 hT)]
            exact g1
          · rw [upd_ne nTD, upd_same]
      · rintro H2 ⟨e', bs, hb', hbp⟩
        rw [List.length_map, hal, List.take_length] at hbp
        refine r_nil ?_
        refine sp_aspans (sp := ps.map fun s => (s.1, (s.2.size : Int))) ⟨bs, hb', paired_mapR (Paired.mapP hbp fun y s ⟨_, g1⟩ => g1)⟩ hok hz (by rw [List.length_map]; exact hn) (fun H3 e3 => ?_)
        walk_at "rd"
        exact q _ ((e.trans e').trans e3)
def spCPieces : Sp := fun vs H Q _ => ∃ (z : Int) (p : Addr) (ps : List (Int × Array UInt8)), vs = [.int z, .ref p] ∧ PcsT H p ps ∧ pcsOk z ps ∧ 0 ≤ z ∧ z ≤ 4096 ∧ ps.length ≤ 50 ∧ ∀ H', Same H H' → Q .non H'
theorem sp_cpieces {z : Int} {p : Addr} {ps : List (Int × Array UInt8)} {H : Hp} {Q : VK} {E : XK} (hp : PcsT H p ps) (h1 : pcsOk z ps) (h0 : 0 ≤ z) (h2 : z ≤ 4096) (h3 : ps.length ≤ 50) (k : ∀ H', Same H H' → Q .non H') : spCPieces ([.int z, .ref p] ++ []) H Q E := ⟨z, p, ps, rfl, hp, h1, h0, h2, h3, k⟩
theorem ok_cpieces {f : Addr} {fd : FuncData} {k : Nat} (F : Fun K "check_pieces" "check_pieces" s_check_pieces f fd) (c_issize : CalT P w K mg base 3 "is_size" (spIn 0 4096)) (c_apieces : CalT P w K mg base 4 "are_pieces" spAPieces) :
    FnOk P w K mg base CX0 (k + 5) f fd ["size", "pieces"] spCPieces := by
  refine F.ok sc_check_pieces (fun vs H Q E h => ?_) (fun cdv A outer s H vs Q E hr h => ?_)
  · obtain ⟨z, p, ps, rfl, _⟩ := h
    rfl
  · obtain ⟨z, p, ps, rfl, hp, hok, h0, h1, hn, q⟩ := h
    have hu := hu_of hr
    have nd := sc_check_pieces.nd
    refine ⟨_, (pss_cons (ps_if (pt_not (pt_val (pe_cc c_issize hr (by omega) (by rfl) (pa_cons (pv 0) pa_nil))))
        (pss_one ps_never)
        pss_nil)
      (pss_one (ps_if (pt_not (pt_val (pe_cc c_apieces hr (by omega) (by rfl) (pa_cons (pv 0) (pa_cons (pv 1) pa_nil)))))
        (pss_one ps_never)
        pss_nil))), ?_⟩
    walk_at "rd"
    refine sp_in h0 h1 ?_
    walk_at "rd"
    refine sp_apieces hp hok h1 hn (fun H1 e1 => ?_)
    walk_at "rd"
    exact q _ e1
end
/-! ### the members' __init__ -/
/-- all that was there stays, but for x -/
def Frame (x : Addr) (H H' : Hp) : Prop := ∀ b o, b ≠ x → H b = some o → H' b = some o
def fileF (n : Str) (y : Array UInt8) (b t : Int) : List (Str × V) := putF "time" (.int t) (putF "mode" (.int b) (putF "data" (.byt y) (putF "name" (.str n) [])))
def dirF (n : Str) (b t : Int) : List (Str × V) := putF "time" (.int t) (putF "mode" (.int b) (putF "name" (.str n) []))
def symF (n g : Str) (b t : Int) : List (Str × V) := putF "time" (.int t) (putF "mode" (.int b) (putF "target" (.str g) (putF "name" (.str n) [])))
section
variable {P : Program} {w : World} {K : PySem.W.Frag} {mg : Str → Option Value} {base : Heap}
def spFileI (C : Addr) : Sp := fun vs H Q _ => ∃ (x dx : Addr) (n : Str) (y : Array UInt8) (b t : Int), vs = [.ref x, .str n, .byt y, .int b, .int t] ∧ H x = some (.ins C dx []) ∧ stampOk n b t ∧ y.size ≤ 4096 ∧ ∀ H', Frame x H H' → H' x = some (.ins C dx (fileF n y b t)) → Q .non H'
theorem ok_fileI {f C : Addr} {fd : FuncData} {k : Nat} (F : FunD K "__init__" "File.__init__" (defArgs s_File___init__) (defBody s_File___init__) (defScope s_File___init__) [] [("mode", .int 420), ("time", .int 0)] f fd) (hc : Cls K C)
    (a1 : NoAttr K C "name") (a2 : NoAttr K C "data") (a3 : NoAttr K C "mode") (a4 : NoAttr K C "time") (c_cname : CalT P w K mg base 3 "check_name" spCName) (c_cdata : CalT P w K mg base 3 "check_data" spCData) (c_stamp : CalT P w K mg base 4 "check_mode_and_time" spStamp) :
    FnOk P w K mg base CX0 (k + 5) f fd ["self", "name", "data", "mode", "time"] (spFileI C) := by
  refine funD_ok0 F sc_File___init__ (fun vs H Q E h => ?_) (fun cdv A outer s H vs Q E hr h => ?_)
  · obtain ⟨x, dx, n, y, b, t, rfl, _⟩ := h
    rfl
  · obtain ⟨x, dx, n, y, b, t, rfl, hx, ⟨s1, s2, s3, s4, s5⟩, hy, q⟩ := h
    have hu := hu_of hr
    have nd := sc_File___init__.nd
    refine ⟨_, (pss_cons (ps_expr (pe_cc c_cname hr (by omega) (by rfl) (pa_cons (pv 1) pa_nil)))
      (pss_cons (ps_expr (pe_cc c_cdata hr (by omega) (by rfl) (pa_cons (pv 2) pa_nil)))
      (pss_cons (ps_expr (pe_cc c_stamp hr (by omega) (by rfl) (pa_cons (pv 3) (pa_cons (pv 4) pa_nil))))
      (pss_cons (ps_fld (pv 0) (pv 1) rfl)
      (pss_cons (ps_fld (pv 0) (pv 2) rfl)
      (pss_cons (ps_fld (pv 0) (pv 3) rfl)
      (pss_one (ps_fld (pv 0) (pv 4) rfl)))))))), ?_⟩
    walk_at "rd"
    refine sp_cname s1 (fun H1 e1 => ?_)
    walk_at "rd"
    refine sp_cdata hy (fun H2 e2 => ?_)
    walk_at "rd"
    refine sp_stamp s2 s3 s4 s5 (fun H3 e3 => ?_)
    have hx3 := e3 _ _ (e2 _ _ (e1 _ _ hx))
    walk_at "rd"
    refine q _ (fun b o nb e => ?_) upd_same
    rw [upd_ne nb, upd_ne nb, upd_ne nb, upd_ne nb]
    exact e3 _ _ (e2 _ _ (e1 _ _ e))
def spDirI (C : Addr) : Sp := fun vs H Q _ => ∃ (x dx : Addr) (n : Str) (b t : Int), vs = [.ref x, .str n, .int b, .int t] ∧ H x = some (.ins C dx []) ∧ stampOk n b t ∧ ∀ H', Frame x H H' → H' x = some (.ins C dx (dirF n b t)) → Q .non H'
theorem ok_dirI {f C : Addr} {fd : FuncData} {k : Nat} (F : FunD K "__init__" "Directory.__init__" (defArgs s_Directory___init__) (defBody s_Directory___init__) (defScope s_Directory___init__) [] [("mode", .int 493), ("time", .int 0)] f fd) (hc : Cls K C)
    (a1 : NoAttr K C "name") (a3 : NoAttr K C "mode") (a4 : NoAttr K C "time") (c_cname : CalT P w K mg base 3 "check_name" spCName) (c_stamp : CalT P w K mg base 4 "check_mode_and_time" spStamp) :
    FnOk P w K mg base CX0 (k + 5) f fd ["self", "name", "mode", "time"] (spDirI C) := by
  refine funD_ok0 F sc_Directory___init__ (fun vs H Q E h => ?_) (fun cdv A outer s H vs Q E hr h => ?_)
  · obtain ⟨x, dx, n, b, t, rfl, _⟩ := h
    rfl
  · obtain ⟨x, dx, n, b, t, rfl, hx, ⟨s1, s2, s3, s4, s5⟩, q⟩ := h
    have hu := hu_of hr
    have nd := sc_Directory___init__.nd
    refine ⟨_, (pss_cons (ps_expr (pe_cc c_cname hr (by omega) (by rfl) (pa_cons (pv 1) pa_nil)))
      (pss_cons (ps_expr (pe_cc c_stamp hr (by omega) (by rfl) (pa_cons (pv 2) (pa_cons (pv 3) pa_nil))))
      (pss_cons (ps_fld (pv 0) (pv 1) rfl)
      (pss_cons (ps_fld (pv 0) (pv 2) rfl)
      (pss_one (ps_fld (pv 0) (pv 3) rfl)))))), ?_⟩
    walk_at "rd"
    refine sp_cname s1 (fun H1 e1 => ?_)
    walk_at "rd"
    refine sp_stamp s2 s3 s4 s5 (fun H3 e3 => ?_)
    have hx3 := e3 _ _ (e1 _ _ hx)
    walk_at "rd"
    refine q _ (fun b o nb e => ?_) upd_same
    rw [upd_ne nb, upd_ne nb, upd_ne nb]
    exact e3 _ _ (e1 _ _ e)
def spSymI (C : Addr) : Sp := fun vs H Q _ => ∃ (x dx : Addr) (n g : Str) (b t : Int), vs = [.ref x, .str n, .str g, .int b, .int t] ∧ H x = some (.ins C dx []) ∧ stampOk n b t ∧ nameB g = true ∧ ∀ H', Frame x H H' → H' x = some (.ins C dx (symF n g b t)) → Q .non H'
theorem ok_symI {f C : Addr} {fd : FuncData} {k : Nat} (F : FunD K "__init__" "Symlink.__init__" (defArgs s_Symlink___init__) (defBody s_Symlink___init__) (defScope s_Symlink___init__) [] [("mode", .int 511), ("time", .int 0)] f fd) (hc : Cls K C)
    (a1 : NoAttr K C "name") (a2 : NoAttr K C "target") (a3 : NoAttr K C "mode") (a4 : NoAttr K C "time") (c_cname : CalT P w K mg base 3 "check_name" spCName) (c_stamp : CalT P w K mg base 4 "check_mode_and_time" spStamp) :
    FnOk P w K mg base CX0 (k + 5) f fd ["self", "name", "target", "mode", "time"] (spSymI C) := by
  refine funD_ok0 F sc_Symlink___init__ (fun vs H Q E h => ?_) (fun cdv A outer s H vs Q E hr h => ?_)
  · obtain ⟨x, dx, n, g, b, t, rfl, _⟩ := h
    rfl
  · obtain ⟨x, dx, n, g, b, t, rfl, hx, ⟨s1, s2, s3, s4, s5⟩, hg, q⟩ := h
    have hu := hu_of hr
    have nd := sc_Symlink___init__.nd
    refine ⟨_, (pss_cons (ps_expr (pe_cc c_cname hr (by omega) (by rfl) (pa_cons (pv 1) pa_nil)))
      (pss_cons (ps_expr (pe_cc c_cname hr (by omega) (by rfl) (pa_cons (pv 2) pa_nil)))
      (pss_cons (ps_expr (pe_cc c_stamp hr (by omega) (by rfl) (pa_cons (pv 3) (pa_cons (pv 4) pa_nil))))
      (pss_cons (ps_fld (pv 0) (pv 1) rfl)
      (pss_cons (ps_fld (pv 0) (pv 2) rfl)
      (pss_cons (ps_fld (pv 0) (pv 3) rfl)
      (pss_one (ps_fld (pv 0) (pv 4) rfl)))))))), ?_⟩
    walk_at "rd"
    refine sp_cname s1 (fun H1 e1 => ?_)
    walk_at "rd"
    refine sp_cname hg (fun H2 e2 => ?_)
    walk_at "rd"
    refine sp_stamp s2 s3 s4 s5 (fun H3 e3 => ?_)
    have hx3 := e3 _ _ (e2 _ _ (e1 _ _ hx))
    walk_at "rd"
    refine q _ (fun b o nb e => ?_) upd_same
    rw [upd_ne nb, upd_ne nb, upd_ne nb, upd_ne nb]
    exact e3 _ _ (e2 _ _ (e1 _ _ e))
theorem ok_lnkI {f C : Addr} {fd : FuncData} {k : Nat} (F : FunD K "__init__" "Link.__init__" (defArgs s_Link___init__) (defBody s_Link___init__) (defScope s_Link___init__) [] [("mode", .int 420), ("time", .int 0)] f fd) (hc : Cls K C)
    (a1 : NoAttr K C "name") (a2 : NoAttr K C "target") (a3 : NoAttr K C "mode") (a4 : NoAttr K C "time") (c_cname : CalT P w K mg base 3 "check_name" spCName) (c_stamp : CalT P w K mg base 4 "check_mode_and_time" spStamp) :
    FnOk P w K mg base CX0 (k + 5) f fd ["self", "name", "target", "mode", "time"] (spSymI C) := by
  refine funD_ok0 F sc_Link___init__ (fun vs H Q E h => ?_) (fun cdv A outer s H vs Q E hr h => ?_)
  · obtain ⟨x, dx, n, g, b, t, rfl, _⟩ := h
    rfl
  · obtain ⟨x, dx, n, g, b, t, rfl, hx, ⟨s1, s2, s3, s4, s5⟩, hg, q⟩ := h
    have hu := hu_of hr
    have nd := sc_Link___init__.nd
    refine ⟨_, (pss_cons (ps_expr (pe_cc c_cname hr (by omega) (by rfl) (pa_cons (pv 1) pa_nil)))
      (pss_cons (ps_expr (pe_cc c_cname hr (by omega) (by rfl) (pa_cons (pv 2) pa_nil)))
      (pss_cons (ps_expr (pe_cc c_stamp hr (by omega) (by rfl) (pa_cons (pv 3) (pa_cons (pv 4) pa_nil))))
      (pss_cons (ps_fld (pv 0) (pv 1) rfl)
      (pss_cons (ps_fld (pv 0) (pv 2) rfl)
      (pss_cons (ps_fld (pv 0) (pv 3) rfl)
      (pss_one (ps_fld (pv 0) (pv 4) rfl)))))))), ?_⟩
    walk_at "rd"
    refine sp_cname s1 (fun H1 e1 => ?_)
    walk_at "rd"
    refine sp_cname hg (fun H2 e2 => ?_)
    walk_at "rd"
    refine sp_stamp s2 s3 s4 s5 (fun H3 e3 => ?_)
    have hx3 := e3 _ _ (e2 _ _ (e1 _ _ hx))
    walk_at "rd"
    refine q _ (fun b o nb e => ?_) upd_same
    rw [upd_ne nb, upd_ne nb, upd_ne nb, upd_ne nb]
    exact e3 _ _ (e2 _ _ (e1 _ _ e))
/-! ### Sparse: what is left over is a tuple -/
def spaF (n : Str) (z : Int) (p : Addr) (b t : Int) : List (Str × V) := putF "time" (.int t) (putF "mode" (.int b) (putF "pieces" (.ref p) (putF "size" (.int z) (putF "name" (.str n) []))))
def spSpaI (C : Addr) : Sp := fun vs H Q _ => ∃ (x dx : Addr) (n : Str) (z b t : Int) (p : Addr) (ps : List (Int × Array UInt8)), vs = [.ref x, .str n, .int z, .int b, .int t, .ref p] ∧ H x = some (.ins C dx []) ∧ stampOk n b t ∧ PcsT H p ps ∧ pcsOk z ps ∧ 0 ≤ z ∧ z ≤ 4096 ∧ ps.length ≤ 50 ∧
  ∀ H', Frame x H H' → H' x = some (.ins C dx (spaF n z p b t)) → Q .non H'
/-- the body of Sparse.__init__ -/
theorem walk_spaI {f C : Addr} {k : Nat} {cdv : Value} {A : Around} {outer : List Env} {s : Shared} {H : Hp} {vs : List V} {Q : VK} {E : XK} (hc : Cls K C)
    (a1 : NoAttr K C "name") (a2 : NoAttr K C "size") (a3 : NoAttr K C "mode") (a4 : NoAttr K C "time") (a5 : NoAttr K C "pieces") (c_cname : CalT P w K mg base 3 "check_name" spCName) (c_cpieces : CalT P w K mg base 5 "check_pieces" spCPieces) (c_stamp : CalT P w K mg base 4 "check_mode_and_time" spStamp)
    (hr : Room (k + 5) (A.deeper (envOfC "Sparse.__init__" (defScope s_Sparse___init__) s.heap.objs.size f cdv))) (h : spSpaI C vs H Q E) :
    ∃ t, PSs (cxOf CX0 P w K mg base N_Sparse___init__ "Sparse.__init__" (defScope s_Sparse___init__) f cdv A outer s H E).nox (defBody s_Sparse___init__) t ∧ t { nx := fun _ H' => Q .non H', rt := Q } (start N_Sparse___init__ vs) H := by
  obtain ⟨x, dx, n, z, b, t, p, ps, rfl, hx, ⟨s1, s2, s3, s4, s5⟩, hp, hok, z0, z1, hl, q⟩ := h
  have hu := hu_of hr
  have nd := sc_Sparse___init__.nd
  refine ⟨_, (pss_cons (ps_expr (pe_cc c_cname hr (by omega) (by rfl) (pa_cons (pv 1) pa_nil)))
      (pss_cons (ps_expr (pe_cc c_cpieces hr (by omega) (by rfl) (pa_cons (pv 2) (pa_cons (pv 5) pa_nil))))
      (pss_cons (ps_expr (pe_cc c_stamp hr (by omega) (by rfl) (pa_cons (pv 3) (pa_cons (pv 4) pa_nil))))
      (pss_cons (ps_fld (pv 0) (pv 1) rfl)
      (pss_cons (ps_fld (pv 0) (pv 2) rfl)
      (pss_cons (ps_fld (pv 0) (pv 5) rfl)
      (pss_cons (ps_fld (pv 0) (pv 3) rfl)
      (pss_one (ps_fld (pv 0) (pv 4) rfl))))))))), ?_⟩
  walk_at "rd"
  refine sp_cname s1 (fun H1 e1 => ?_)
  walk_at "rd"
  refine sp_cpieces (hp.same e1) hok z0 z1 hl (fun H2 e2 => ?_)
  walk_at "rd"
  refine sp_stamp s2 s3 s4 s5 (fun H3 e3 => ?_)
  have hx3 := e3 _ _ (e2 _ _ (e1 _ _ hx))
  walk_at "rd"
  refine q _ (fun b o nb e => ?_) upd_same
  rw [upd_ne nb, upd_ne nb, upd_ne nb, upd_ne nb, upd_ne nb]
  exact e3 _ _ (e2 _ _ (e1 _ _ e))
end
/-! ### a call that binds a rest and keyword-only parameters -/
/-- a look through the keyword-only defaults, one name behind another, that goes on as fin -/
def Chn {α : Type} (D : Addr) (fin : Sem α) : List (Str × Value) → Sem α → Prop
  | [], t => t = fin
  | q :: l, t => ∃ (β γ : Type) (x : Option Value → Sem β) (y : β → Sem γ) (z : γ → Sem α) (b : β), (t = ((nsGet D q.1 >>= x) >>= y) >>= z) ∧ (x (some q.2) = pure b) ∧ Chn D fin l (y b >>= z)
theorem chn_wp {α : Type} {K : PySem.W.Frag} {M : Model} {A : Around} {s : Shared} {D : Addr} {fin : Sem α} {Q : α → Shared → Prop} {E : Value → Shared → Prop} (X : K.In s.heap) (hf : wpAny M A fin Q E s) :
    ∀ {l : List (Str × Value)} {t : Sem α}, (∀ q ∈ l, PySem.W.nsIn K D q.1 = some (some q.2)) → Chn D fin l t → wpAny M A t Q E s
  | [], t, _, c => by
    have c' : t = fin := c
    rw [c']
    exact hf
  | q :: l, t, h, c => by
    obtain ⟨β, γ, x, y, z, b, rfl, hx, hc⟩ := c
    have look : PySem.W.Looks M s.heap (nsGet D q.1 >>= x) b := (PySem.W.looks_nsIn X (h q (List.mem_cons_self ..))).andThen (PySem.W.Looks.of_pure hx)
    have rest := chn_wp X hf (fun p hp => h p (List.mem_cons_of_mem _ hp)) hc
    rw [bind_assoc]
    exact wpAny_bind (look.here rest)
/-- a def's promise by the positional values and the keywords' values -/
def FnS (P : Program) (w : World) (K : PySem.W.Frag) (mg : Str → Option Value) (base : Heap) (k : Nat) (f : Addr) (ks : List Str) (sp : List V → List V → Hp → VK → Prop) : Prop :=
  ∀ (A : Around) (outer : List Env) (s : Shared) (H : Hp) (us ws : List Value) (vs zs : List V) (Q : VK) (E : XK), Room k A → Env0 P w K mg base A outer s H → Vals vs us → Vals zs ws → ws.length = ks.length → sp vs zs H Q →
    codeAny (model P w) A (.call (.ref f) ⟨us, ks.zip ws⟩) (CR CX0 outer P w H s Q E) s
/-- what a Sparse is made of: the name, the size, the pieces that follow -/
def spSpa (C : Addr) (b t : Int) (vs : List V) (H : Hp) (Q : VK) : Prop := ∃ (x dx : Addr) (n : Str) (z : Int) (as : List Addr) (ps : List (Int × Array UInt8)), vs = .ref x :: .str n :: .int z :: as.map V.ref ∧ H x = some (.ins C dx []) ∧ stampOk n b t ∧
  Paired (fun q (s : Int × Array UInt8) => H q = some (.tup [.int s.1, .byt s.2])) as ps ∧ pcsOk z ps ∧ 0 ≤ z ∧ z ≤ 4096 ∧ ps.length ≤ 50 ∧
  ∀ p H', H p = none → Frame x H H' → H' p = some (.tup (as.map V.ref)) → H' x = some (.ins C dx (spaF n z p b t)) → Q .non H'
section
variable {P : Program} {w : World} {K : PySem.W.Frag} {mg : Str → Option Value} {base : Heap}
/-- the tuple of the rest is laid, then the body runs -/
theorem run_spa {f C : Addr} {k : Nat} {oc : Value} {od an : Option Addr} {dV kV doc pm cdv ct : Value} {osl : Array (Option Value)} {A : Around} {outer : List Env} {s : Shared} {H : Hp} {args : Args} {Q : VK} {E : XK} {b t : Int} {vs : List V} {ux un uz ub ut : Value} {us : List Value}
    (lk : K.lookup f = some ⟨oc, od, .func (PySem.W.fnOf "__init__" "Sparse.__init__" (defArgs s_Sparse___init__) (defBody s_Sparse___init__) (defScope s_Sparse___init__) dV kV doc pm an cdv ct), osl⟩) (hcd : PySem.W.codeIn K cdv "Sparse.__init__" = true)
    (hc : Cls K C) (a1 : NoAttr K C "name") (a2 : NoAttr K C "size") (a3 : NoAttr K C "mode") (a4 : NoAttr K C "time") (a5 : NoAttr K C "pieces") (c_cname : CalT P w K mg base 3 "check_name" spCName) (c_cpieces : CalT P w K mg base 5 "check_pieces" spCPieces) (c_stamp : CalT P w K mg base 4 "check_mode_and_time" spStamp)
    (hr : Room (k + 6) A) (e0 : Env0 P w K mg base A outer s H) (rv : Vals vs (ux :: un :: uz :: us)) (rb : RelV (.int b) ub) (rt : RelV (.int t) ut) (h : spSpa C b t vs H Q)
    (bound : ∀ (M : Model) (A' : Around) (Ex : Value → Shared → Prop) (Q' : List (Str × Value) → Shared → Prop), wpAny M A' (newTuple us >>= fun tp => pure ([("self", ux), ("name", un), ("size", uz), ("mode", ub), ("time", ut), ("pieces", tp)] : List (Str × Value))) Q' Ex s →
      wpAny M A' (bindArgs (PySem.W.fnOf "__init__" "Sparse.__init__" (defArgs s_Sparse___init__) (defBody s_Sparse___init__) (defScope s_Sparse___init__) dV kV doc pm an cdv ct) args) Q' Ex s) :
    codeAny (model P w) A (.call (.ref f) args) (CR CX0 outer P w H s Q E) s := by
  obtain ⟨x, dx, n, z, as, ps, rfl, hx, st, hpd, hok, z0, z1, hl, q⟩ := h
  obtain ⟨r1, r2, r3, r4⟩ : RelV (.ref x) ux ∧ RelV (.str n) un ∧ RelV (.int z) uz ∧ Vals (as.map V.ref) us := by
    cases rv with
    | cons r1 rv => cases rv with
      | cons r2 rv => cases rv with
        | cons r3 rv => exact ⟨r1, r2, r3, rv⟩
  have hsz : (as.map V.ref).length ≤ sizeLine := by rw [List.length_map, hpd.length]; exact Nat.le_trans hl (by decide)
  have hus : us.length ≤ sizeLine := by rw [← r4.length]; exact hsz
  have fresh : H s.heap.objs.size = none := e0.hok.fresh (Nat.le_refl _)
  refine StX.run_bnd lk hcd sc_Sparse___init__ hr e0 (G := fun xs H2 => ∃ p, H p = none ∧ xs = [.ref x, .str n, .int z, .int b, .int t, .ref p] ∧ H2 = upd H p (.tup (as.map V.ref))) ?_ ?_
  · intro A' Ex Q' hq
    refine bound _ A' Ex Q' (wpAny_bind (wpAny_newTuple (wpAny_pure ?_) hus))
    have laid : ObjOk P w (upd H s.heap.objs.size (.tup (as.map V.ref))) (s.heap.push { cls := .type "tuple", data := .seq us.toArray }) s.heap.objs.size (.tup (as.map V.ref)) :=
      ⟨hsz, us, r4, _, Heap.get?_push_size _ rfl, rfl, _, rfl⟩
    exact hq _ (upd H s.heap.objs.size (.tup (as.map V.ref))) [.ref x, .str n, .int z, .int b, .int t, .ref s.heap.objs.size] [ux, un, uz, ub, ut, .ref s.heap.objs.size] (StX.env0_laid e0 laid) (StX.un_laid fresh) rfl (fun e s' z => z)
      (.cons r1 (.cons r2 (.cons r3 (.cons rb (.cons rt (.cons rfl .nil)))))) rfl ⟨_, fresh, rfl, rfl⟩
  · rintro s2 H2 xs ⟨p, hp, rfl, rfl⟩ hr'
    have np : x ≠ p := ne_of_none hx hp
    obtain ⟨t', d, wq⟩ := walk_spaI (k := k) (E := E) (Q := Q) (outer := outer) (s := s2) (A := A) (f := f) (cdv := cdv) hc a1 a2 a3 a4 a5 c_cname c_cpieces c_stamp hr' (vs := [.ref x, .str n, .int z, .int b, .int t, .ref p]) (H := upd H p (.tup (as.map V.ref)))
      ⟨x, dx, n, z, b, t, p, ps, rfl, upd_old hp hx, st, ⟨as, upd_same, Paired.mapP hpd fun q s g => upd_old hp g⟩, hok, z0, z1, hl, fun H' fr hx' => q p H' hp (fun c o nc e => fr c o nc (upd_old hp e)) (fr p _ np.symm upd_same) hx'⟩
    exact ⟨t', d.nox, wq⟩
theorem ok_spaK {f C : Addr} {fd : FuncData} {k : Nat} (F : FunD K "__init__" "Sparse.__init__" (defArgs s_Sparse___init__) (defBody s_Sparse___init__) (defScope s_Sparse___init__) [] [("mode", .int 420), ("time", .int 0)] f fd) (hc : Cls K C)
    (a1 : NoAttr K C "name") (a2 : NoAttr K C "size") (a3 : NoAttr K C "mode") (a4 : NoAttr K C "time") (a5 : NoAttr K C "pieces") (c_cname : CalT P w K mg base 3 "check_name" spCName) (c_cpieces : CalT P w K mg base 5 "check_pieces" spCPieces) (c_stamp : CalT P w K mg base 4 "check_mode_and_time" spStamp) :
    FnS P w K mg base (k + 6) f ["mode", "time"] (fun vs zs H Q => ∃ b t : Int, zs = [.int b, .int t] ∧ spSpa C b t vs H Q) := by
  obtain ⟨oc, od, dV, kV, doc, pm, an, cdv, ct, osl, rfl, lk, hcd, hD, hK⟩ := F.ex
  have hdV : dV = .none := by
    rcases hD with ⟨_, e⟩ | ⟨e, _⟩
    · exact e
    · exact absurd rfl e
  subst hdV
  intro A outer s H us ws vs zs Q E hr e0 rv rz hw ⟨b, t, ez, h⟩
  subst ez
  obtain ⟨ub, ut, rfl, rb, rt⟩ : ∃ ub ut, ws = [ub, ut] ∧ RelV (.int b) ub ∧ RelV (.int t) ut := by
    cases rz with
    | cons rb rz => cases rz with
      | cons rt rz => cases rz with
        | nil => exact ⟨_, _, rfl, rb, rt⟩
  have h' := h
  obtain ⟨x, dx, n, z, as, ps, ev, _⟩ := h'
  obtain ⟨ux, un, uz, ur, rfl⟩ : ∃ ux un uz ur, us = ux :: un :: uz :: ur := by
    subst ev
    cases rv with
    | cons r1 rv => cases rv with
      | cons r2 rv => cases rv with
        | cons r3 rv => exact ⟨_, _, _, _, rfl⟩
  refine run_spa lk hcd hc a1 a2 a3 a4 a5 c_cname c_cpieces c_stamp hr e0 rv rb rt h (fun M A' Ex Q' hq => ?_)
  cases ur with
  | nil => exact hq
  | cons r rs => exact hq
theorem ok_spaD {f C : Addr} {fd : FuncData} {k : Nat} (F : FunD K "__init__" "Sparse.__init__" (defArgs s_Sparse___init__) (defBody s_Sparse___init__) (defScope s_Sparse___init__) [] [("mode", .int 420), ("time", .int 0)] f fd) (hc : Cls K C)
    (a1 : NoAttr K C "name") (a2 : NoAttr K C "size") (a3 : NoAttr K C "mode") (a4 : NoAttr K C "time") (a5 : NoAttr K C "pieces") (c_cname : CalT P w K mg base 3 "check_name" spCName) (c_cpieces : CalT P w K mg base 5 "check_pieces" spCPieces) (c_stamp : CalT P w K mg base 4 "check_mode_and_time" spStamp) :
    FnS P w K mg base (k + 6) f [] (fun vs zs H Q => zs = [] ∧ spSpa C 420 0 vs H Q) := by
  obtain ⟨oc, od, dV, kV, doc, pm, an, cdv, ct, osl, rfl, lk, hcd, hD, hK⟩ := F.ex
  have hdV : dV = .none := by
    rcases hD with ⟨_, e⟩ | ⟨e, _⟩
    · exact e
    · exact absurd rfl e
  subst hdV
  rcases hK with e | ⟨D, rfl, hq⟩
  · exact absurd e (by simp)
  obtain ⟨ub, nb, rb⟩ := hq ("mode", .int 420) (by simp)
  obtain ⟨ut, nt, rt⟩ := hq ("time", .int 0) (by simp)
  intro A outer s H us ws vs zs Q E hr e0 rv rz hw ⟨ez, h⟩
  subst ez
  obtain rfl : ws = [] := by
    cases rz
    rfl
  have h' := h
  obtain ⟨x, dx, n, z, as, ps, ev, _⟩ := h'
  obtain ⟨ux, un, uz, ur, rfl⟩ : ∃ ux un uz ur, us = ux :: un :: uz :: ur := by
    subst ev
    cases rv with
    | cons r1 rv => cases rv with
      | cons r2 rv => cases rv with
        | cons r3 rv => exact ⟨_, _, _, _, rfl⟩
  have KX : K.In s.heap := e0.mod.kin.keeps fun b o e => (e0.bs b o e).1
  have hks : ∀ q ∈ [(("mode" : Str), ub), (("time" : Str), ut)], PySem.W.nsIn K D q.1 = some (some q.2) := by
    intro q hq
    simp only [List.mem_cons, List.not_mem_nil, or_false] at hq
    rcases hq with rfl | rfl
    · exact nb
    · exact nt
  refine run_spa lk hcd hc a1 a2 a3 a4 a5 c_cname c_cpieces c_stamp hr e0 rv rb rt h (fun M A' Ex Q' hq => ?_)
  refine chn_wp KX hq hks ?_
  cases ur with
  | nil => exact ⟨_, _, _, _, _, _, rfl, rfl, _, _, _, _, _, _, rfl, rfl, rfl⟩
  | cons r rs => exact ⟨_, _, _, _, _, _, rfl, rfl, _, _, _, _, _, _, rfl, rfl, rfl⟩
end
/-! ### C(e, .., k = v, ..), by such a promise of its __init__ -/
structure MakS (P : Program) (w : World) (K : PySem.W.Frag) (mg : Str → Option Value) (base : Heap) (k : Nat) (x : Str) (C : Addr) (ks : List Str) (sp : List V → List V → Hp → VK → Prop) : Prop where
  ex : ∃ f : Addr, Mk K C f ∧ FnS P w K mg base k f ks sp ∧ mg x = some (.ref C)
def tMakS (sp : List V → List V → Hp → VK → Prop) (m : Nat) (C : Addr) (t tk : TA) : TE := fun σ H Q => t σ H fun vs H1 => tk σ H1 fun zs H2 => zs.length = m ∧ ∀ x dx, H2 x = none → H2 dx = none → dx ≠ x →
  sp (.ref x :: vs) zs (upd (upd H2 dx (.own x)) x (.ins C dx [])) (fun v H3 => v = .non ∧ Q (.ref x) H3)
section
variable {X : Cx} {j k : Nat} {x : Str} {C : Addr} {ks : List Str} {sp : List V → List V → Hp → VK → Prop} {e : Expr} {es : List Expr} {kws : List Keyword} {p pos : Pos} {t tk : TA}
theorem run_mks {pins : List (Addr × Obj)} {σ : L2.St} {H : Hp} {s : Shared} {Q : VK} {f : Addr} {us ws : List Value} {vs zs : List V} (M : Mk X.K C f) (F : FnS X.prog X.w X.K X.mg X.base k f ks sp) (hr : Room (k + 1) X.A) (hx : ∀ (E : Value → Shared → Prop), True)
    (I : L2.Inv X pins σ H s) (rv : Vals vs us) (rz : Vals zs ws) (hl : zs.length = ks.length)
    (h : ∀ y dx, H y = none → H dx = none → dx ≠ y → sp (.ref y :: vs) zs (upd (upd H dx (.own y)) y (.ins C dx [])) (fun v H3 => v = .non ∧ Q (.ref y) H3)) :
    wpAny (model X.prog X.w) X.A (call (.ref C) us (ks.zip ws)) (EP X pins σ Q) X.xe s := by
  let y := s.heap.objs.size + 1
  have told := h y s.heap.objs.size (I.hok.fresh (Nat.le_succ _)) (I.hok.fresh (Nat.le_refl _)) (Nat.ne_of_lt (Nat.lt_succ_self _))
  have J := Inv.made (C := C) I
  have rv' : Vals (V.ref y :: vs) (Value.ref y :: us) := .cons rfl rv
  have ran := F _ X.stack _ _ (Value.ref y :: us) ws _ zs _ (fun _ _ _ => False) (hr.make C us (ks.zip ws)) (J.env0.make C us (ks.zip ws)) rv' rz (rz.length.symm.trans hl) told
  refine wpAny_call (make_map (f := f) I.kIn M.makes M.init (beq_iff_eq.mp M.fn) (codeAny_mono ran ?_))
  intro r s' hq
  cases r with
  | error e => exact False.elim hq
  | ok fl =>
    cases fl with
    | ret u =>
      obtain ⟨v, H', J', rel, ev, q⟩ := J.after hq
      rw [ev] at rel
      exact ⟨rel, V.ref y, H', J', rfl, q⟩
    | next => exact False.elim hq
    | brk => exact False.elim hq
    | cont => exact False.elim hq
theorem pe_mks (c : MakS X.prog X.w X.K X.mg X.base k x C ks sp) (hr : Room j X.A) (hk : k + 1 ≤ j) (hg : Gl X x) (ha : PA X (e :: es) t) (hkw : PK X kws tk)
    (hall : (backToKw pos (keywordEach kws X.env)).all (·.1.isSome) = true := by rfl) (hks : (backToKw pos (keywordEach kws X.env)).filterMap (·.1) = ks := by rfl) (hdb : (x == ("__debug__" : Str)) = false := by decide)
    (he : starEach (e :: es) X.env = (false, eval e X.env) :: starEach es X.env := by rfl) (hpl : ((backTo pos (starEach (e :: es) X.env)).any (·.1) || (backToKw pos (keywordEach kws X.env)).any (·.1.isNone)) = false := by rfl) :
    PE X (.Call (.Name x p) (e :: es) kws pos) (tMakS sp ks.length C t tk) := by
  obtain ⟨f, M, F, hm⟩ := c.ex
  constructor
  intro pins s σ H Q I h
  refine wpAny_Call_Name_kw (ld_glob I hg hm ?_ hdb)
  refine PySem.W.callWith_KW (h₀ := X.base) I.ok.mod.kin M.kp hall (thn (ha.run pos pins s σ H _ I h) ?_) hpl he
  rintro us s1 ⟨vs, H1, I1, r1, q1⟩
  refine thn (hkw.run pos pins s1 σ H1 _ I1 q1) ?_
  rintro ws s2 ⟨zs, H2, I2, rz, hl, q2⟩
  refine ⟨I2.kIn, ?_⟩
  rw [hks]
  exact run_mks M F (hr.mono hk) (fun _ => True.intro) I2 r1 rz hl q2
end
theorem r_maks {sp : List V → List V → Hp → VK → Prop} {m : Nat} {C : Addr} {t tk : TA} {σ : L2.St} {H : Hp} {Q : VK} (h : t σ H fun vs H1 => tk σ H1 fun zs H2 => zs.length = m ∧ ∀ x dx, H2 x = none → H2 dx = none → dx ≠ x →
  sp (.ref x :: vs) zs (upd (upd H2 dx (.own x)) x (.ins C dx [])) (fun v H3 => v = .non ∧ Q (.ref x) H3)) : tMakS sp m C t tk σ H Q := h
theorem fnS_of {P : Program} {w : World} {K : PySem.W.Frag} {mg : Str → Option Value} {base : Heap} {k n : Nat} {f : Addr} {fd : FuncData} {ps ks : List Str} {sp : Sp} (F : FnOk P w K mg base CX0 k f fd ps sp) (hb : KBn K fd ps n ks (fun us ws => us ++ ws) (fun us ws => us ++ ws)) :
    FnS P w K mg base k f ks (fun vs zs H Q => vs.length = n ∧ ∀ E, sp (vs ++ zs) H Q E) := by
  intro A outer s H us ws vs zs Q E hr e0 rv rz hw ⟨hn, h⟩
  have KX : K.In s.heap := e0.mod.kin.keeps fun b o e => (e0.bs b o e).1
  exact F.run A outer s H _ (us ++ ws) (vs ++ zs) Q E hr e0 (hb.to s us ws KX (by rw [← rv.length]; exact hn) hw) (hb.rel rv rz) (h E)
theorem fnS_dfl {P : Program} {w : World} {K : PySem.W.Frag} {mg : Str → Option Value} {base : Heap} {k : Nat} {f : Addr} {fd : FuncData} {ps : List Str} {sp : Sp} {dvs : List V} {ds : List Value} (F : FnOk P w K mg base CX0 k f fd ps sp) (hb : Binds K fd ps ds) (hd : Vals dvs ds) :
    FnS P w K mg base k f [] (fun vs zs H Q => zs = [] ∧ ∀ E, sp (vs ++ dvs) H Q E) := by
  intro A outer s H us ws vs zs Q E hr e0 rv rz hw ⟨hz, h⟩
  have KX : K.In s.heap := e0.mod.kin.keeps fun b o e => (e0.bs b o e).1
  subst hz
  cases rz
  have r2 := rv.append hd
  exact F.run A outer s H _ (us ++ ds) (vs ++ dvs) Q E hr e0 (hb s us KX (by rw [← r2.length]; exact F.len _ _ _ _ (h E))) r2 (h E)
end Th
namespace Th
open PySem PySem.Spec PyProof.Rows L2
local macro_rules | `(tactic| walk_at "lk") => `(tactic| first
  | assumption
  | exact upd_same
  | (refine upd_old (by assumption) ?_; walk_at "lk")
  | (refine upd_diff (by assumption) ?_; walk_at "lk")
  | (refine upd_diff (Ne.symm (by assumption)) ?_; walk_at "lk"))
local macro_rules | `(tactic| walk_at "cnd") => `(tactic| first
  | omega
  | (refine ⟨by omega, by omega⟩)
  | (refine ⟨by omega, by omega, by omega⟩)
  | (refine .inl ⟨by omega, by omega⟩)
  | (refine .inr ⟨by omega, by omega⟩)
  | (exact (show CPow _ _ from ⟨by decide, by decide, by omega⟩))
  | decide +kernel
  | (unfold CMulW; decide +kernel)
  | (exact wide_div (b := 64) (by omega) (by omega) (by decide) (by decide)))
local macro_rules | `(tactic| walk_at "rd1") => `(tactic| first
  | (with_reducible refine r_seq ?_)
  | (with_reducible refine r_asg ?_)
  | (with_reducible refine r_ret ?_)
  | (with_reducible refine r_if ?_)
  | (with_reducible refine r_gname ?_)
  | ((with_reducible refine' r_var ?hv ?_); (case hv => exact rfl))
  | (with_reducible refine r_c ?_)
  | (with_reducible refine r_op ?_)
  | (with_reducible refine r_I0 ?_)
  | ((with_reducible refine r_I ?hc ?_); (case hc => walk_at "cnd"))
  | (with_reducible refine r_test ?_)
  | (with_reducible refine r_tB ?_)
  | (with_reducible refine r_bl ?_)
  | (with_reducible refine r_not ?_)
  | (with_reducible refine r_and ?_)
  | (with_reducible refine r_or ?_)
  | (with_reducible refine r_ifE ?_)
  | (with_reducible refine r_notV ?_)
  | (with_reducible refine r_andV ?_)
  | (with_reducible refine r_orV ?_)
  | (with_reducible refine r_chain ?_)
  | (with_reducible refine r_cb ?_)
  | (with_reducible refine r_call ?_)
  | (with_reducible refine r_callN ?_)
  | (with_reducible refine r_nil ?_)
  | (with_reducible refine r_dget ?_)
  | ((with_reducible refine r_dnewK ?_); (intro p hp))
  | (with_reducible refine r_din ?_)
  | (with_reducible refine r_dnotin ?_)
  | (with_reducible refine r_dput ?_)
  | (with_reducible refine r_ddel ?_)
  | (with_reducible refine r_dsetd ?_)
  | (with_reducible refine r_rng2 ?_)
  | (with_reducible refine r_cons ?_)
  | ((with_reducible refine r_lst ?_))
  | ((with_reducible refine r_tup ?_))
  | ((with_reducible refine r_new ?_ ?_); (exact Nat.le_of_ble_eq_true rfl); (intro p hp))
  | (with_reducible refine r_rInt1 ?_)
  | (with_reducible refine r_rIntB ?_)
  | (with_reducible refine r_rAbs ?_)
  | (with_reducible refine r_rMin2 ?_)
  | (with_reducible refine r_rMax2 ?_)
  | ((with_reducible refine r_rLenZ ?hz ?_); (case hz => first | assumption | exact Nat.le_of_ble_eq_true rfl | (refine Nat.le_trans ?_ (by decide : 100000 ≤ sizeLine); omega)))
  | ((with_reducible refine r_addZ ?hz ?_); (case hz => (refine Nat.le_trans ?_ (by decide : 100000 ≤ sizeLine); first | omega | (simp only [Str.length] at *; simp; omega))))
  | ((with_reducible refine r_mulZ ?hz ?h0 ?h1 ?_); (case hz => first | omega | exact Nat.le_of_ble_eq_true rfl); (case h0 => omega); (case h1 => omega))
  | ((with_reducible refine' r_rLenQ ?h1 ?_); (case h1 => first | (exact .inl (by assumption)) | (exact .inr (by assumption)) | (exact .inl (SqL.of (by walk_at "lk"))) | (exact .inr (SqT.of (by walk_at "lk")))))
  | ((with_reducible refine r_eq ?hs ?_); (case hs => exact rfl))
  | ((with_reducible refine r_ne ?hs ?_); (case hs => exact rfl))
  | (with_reducible refine r_inC ?_)
  | ((with_reducible refine' r_cat ?h1 ?h2 ?h3 ?_); (case h1 => walk_at "lk"); (case h2 => walk_at "lk"); (case h3 => exact Nat.le_of_ble_eq_true rfl); (intro p hp))
  | ((with_reducible refine' r_rep ?h1 ?h2 ?h3 ?h4 ?_); (case h1 => walk_at "lk"); (case h2 => omega); (case h3 => omega); (case h4 => exact Nat.le_of_ble_eq_true rfl); (intro p hp))
  | ((with_reducible refine' r_append ?h1 ?h2 ?_); (case h1 => walk_at "lk"); (case h2 => first | exact (show _ + 1 ≤ sizeLine from Nat.le_of_ble_eq_true rfl) | exact Nat.lt_of_le_of_lt (by omega : _ ≤ 100000) (by decide)))
  | (with_reducible refine r_bm ?_)
  | ((with_reducible refine' r_tyL ?h1 ?_); (case h1 => walk_at "lk"))
  | ((with_reducible refine' r_ixL ?h1 ?h2 ?_); (case h1 => first | assumption | exact SqL.of (by walk_at "lk")); (case h2 => exact rfl))
  | ((with_reducible refine' r_ixT ?h1 ?h2 ?_); (case h1 => first | assumption | exact SqT.of (by walk_at "lk")); (case h2 => exact rfl))
  | (with_reducible refine r_gsub ?_)
  | ((with_reducible refine' r_setL ?h1 ?h2 ?_); (case h1 => walk_at "lk"); (case h2 => exact rfl))
  | (with_reducible refine r_un ?_)
  | (with_reducible refine r_neg ?_)
  | (with_reducible refine r_iteT ?_)
  | (with_reducible refine r_iteNT ?_)
  | (with_reducible refine r_iteNF ?_)
  | (with_reducible refine r_iteF ?_)
  | (with_reducible refine r_next ?_)
  | (with_reducible refine r_drop ?_)
  | (with_reducible refine r_cont ?_)
  | (with_reducible refine r_brk ?_))
local macro_rules | `(tactic| walk_at "ty") => `(tactic| first
  | assumption
  | exact .base (.int _)
  | exact .base (.str _)
  | exact .base (.bl _)
  | exact .base .non
  | exact .byt _
  | exact .base (.lst (by walk_at "lk"))
  | exact .base (.tup (by walk_at "lk")))
local macro_rules | `(tactic| walk_at "rd2") => `(tactic| first
  | walk_at "rd1"
  | ((with_reducible refine' r_isi true ?ht ?hk ?_); (case ht => walk_at "ty"); (case hk => first | assumption | decide +kernel))
  | ((with_reducible refine' r_isi false ?ht ?hk ?_); (case ht => walk_at "ty"); (case hk => first | assumption | decide +kernel))
  | ((with_reducible refine' r_isiT2 true true ?hT ?ht ?hk ?hk2 ?_); (case hT => walk_at "lk"); (case ht => walk_at "ty"); (case hk => decide +kernel); (case hk2 => decide +kernel))
  | ((with_reducible refine' r_isiT2 true false ?hT ?ht ?hk ?hk2 ?_); (case hT => walk_at "lk"); (case ht => walk_at "ty"); (case hk => decide +kernel); (case hk2 => decide +kernel))
  | ((with_reducible refine' r_isiT2 false true ?hT ?ht ?hk ?hk2 ?_); (case hT => walk_at "lk"); (case ht => walk_at "ty"); (case hk => decide +kernel); (case hk2 => decide +kernel))
  | ((with_reducible refine' r_isiT2 false false ?hT ?ht ?hk ?hk2 ?_); (case hT => walk_at "lk"); (case ht => walk_at "ty"); (case hk => decide +kernel); (case hk2 => decide +kernel))
  | (with_reducible refine r_iteNT ?_)
  | ((show (if (!true) = true then _ else _)); refine r_iteNT ?_)
  | (with_reducible refine r_r1 ?_)
  | (with_reducible refine r_maks ?_)
  | (with_reducible refine r_sfld ?_)
  | ((with_reducible refine' r_sfldE ?h1 ?h2 ?h3 ?h4 ?_); (case h1 => walk_at "lk"); (case h2 => assumption); (case h3 => assumption); (case h4 => exact (show _ + 1 ≤ 1000 from Nat.le_of_ble_eq_true rfl)))
  | (with_reducible refine r_fld ?_)
  | (with_reducible refine r_join ?_)
  | (with_reducible refine r_jcons ?_)
  | (with_reducible refine r_jnil ?_)
  | ((with_reducible refine r_rLenY ?hz ?_); (case hz => first | assumption | (refine Nat.le_trans ?_ (by decide : 100000 ≤ sizeLine); omega)))
  | (with_reducible refine r_par ?_)
  | (with_reducible refine r_pair ?_)
  | (with_reducible refine r_par3 ?_)
  | (with_reducible refine r_trip ?_)
  | ((with_reducible refine' r_gtup ?h1 ?h2 ?_); (case h1 => first | assumption | exact SqT.of (by walk_at "lk")); (case h2 => exact rfl))
  | (with_reducible refine r_gcons ?_)
  | (with_reducible refine r_gnil ?_)
  | ((with_reducible refine' r_slL ?h1 ?_); (case h1 => first | assumption | exact SqL.of (by walk_at "lk")); (intro p hp))
  | (with_reducible refine r_iTup ?_)
  | ((with_reducible refine' r_tupE ?h1 ?_); (case h1 => first | assumption | exact SqT.of (by walk_at "lk")))
  | (with_reducible refine r_m1 ?_)
  | (with_reducible refine r_isZ ?_)
  | (with_reducible refine r_sl ?_)
  | (with_reducible refine r_noPart ?_)
  | (with_reducible refine r_part ?_)
  | (with_reducible refine r_partE ?_)
  | ((with_reducible refine r_slS ?hz ?_); (case hz => first | assumption | (refine Nat.le_trans ?_ (by decide : 100000 ≤ sizeLine); omega)))
  | ((with_reducible refine' r_inT ?h1 ?h2 ?h3 ?_); (case h1 => first | assumption | (exact SqT.of (by walk_at "lk"))); (case h2 => exact rfl); (case h3 => exact rfl))
  | ((with_reducible refine' r_inL ?h1 ?h2 ?h3 ?_); (case h1 => first | assumption | (exact SqL.of (by walk_at "lk"))); (case h2 => exact rfl); (case h3 => exact rfl))
  | (with_reducible refine r_lc ?_)
  | (with_reducible refine r_for ?_)
  | (with_reducible refine r_iStr ?_)
  | (with_reducible refine r_strE ?_)
  | (with_reducible refine r_iList ?_)
  | ((with_reducible refine' r_listE ?h1 ?_); (case h1 => first | assumption | exact SqL.of (by walk_at "lk")))
  | (with_reducible refine r_iRng1 ?_)
  | ((with_reducible refine' r_rngE ?h0 ?h1 ?_); (case h0 => first | omega | (split <;> omega)); (case h1 => first | omega | (split <;> omega))))
local macro_rules | `(tactic| walk_at "rd") => `(tactic| (repeat walk_at "rd2"))
local macro_rules | `(tactic| walk_at "st") => `(tactic| (repeat (first
  | (with_reducible refine r_gname ?_)
  | (with_reducible refine r_next ?_)
  | (with_reducible refine r_seq ?_)
  | (with_reducible refine r_asg ?_)
  | (with_reducible refine r_ret ?_)
  | (with_reducible refine r_for ?_)
  | (with_reducible refine r_iRng1 ?_)
  | (with_reducible refine r_iList ?_)
  | (with_reducible refine r_cons ?_)
  | (with_reducible refine r_par ?_)
  | (with_reducible refine r_par3 ?_))))
/-! ### members made -/
structure Cs where
  F : Addr
  S : Addr
  D : Addr
  Y : Addr
  L : Addr
/-- the object x is the member m -/
def Mem.Ins (c : Cs) (H : Hp) (x : Addr) : Mem → Prop
  | .file n b t ns => ∃ dx, H x = some (.ins c.F dx (fileF n (byteArr ns) b t))
  | .sparse n b t z sp => ∃ dx p, H x = some (.ins c.S dx (spaF n z p b t)) ∧ PcsT H p (sp.map fun s => (s.1, byteArr s.2))
  | .dir n b t => ∃ dx, H x = some (.ins c.D dx (dirF n b t))
  | .sym n b t g => ∃ dx, H x = some (.ins c.Y dx (symF n g b t))
  | .lnk n b t g => ∃ dx, H x = some (.ins c.L dx (symF n g b t))
theorem Mem.Ins.same {c : Cs} {H H' : Hp} {x : Addr} {m : Mem} (e : Same H H') (h : m.Ins c H x) : m.Ins c H' x := by
  cases m with
  | file n b t ns => obtain ⟨dx, h1⟩ := h; exact ⟨dx, e _ _ h1⟩
  | sparse n b t z sp => obtain ⟨dx, p, h1, h2⟩ := h; exact ⟨dx, p, e _ _ h1, h2.same e⟩
  | dir n b t => obtain ⟨dx, h1⟩ := h; exact ⟨dx, e _ _ h1⟩
  | sym n b t g => obtain ⟨dx, h1⟩ := h; exact ⟨dx, e _ _ h1⟩
  | lnk n b t g => obtain ⟨dx, h1⟩ := h; exact ⟨dx, e _ _ h1⟩
/-- a new instance and what its __init__ leaves alone -/
theorem frame_same {H H' : Hp} {x dx : Addr} {u v : HO} (hx : H x = none) (hd : H dx = none) (fr : Frame x (upd (upd H dx u) x v) H') : Same H H' := fun b o e => by
  have nx := ne_of_none e hx
  exact fr b o nx (by rw [upd_ne nx, upd_ne (ne_of_none e hd)]; exact e)
section
variable {P : Program} {w : World} {K : PySem.W.Frag} {mg : Str → Option Value} {base : Heap}
def rEqE : R2 := fun x y H Q => ∃ a b xs, x = .ref a ∧ y = .ref b ∧ H a = some (.lst xs) ∧ H b = some (.lst []) ∧ Q (.bl xs.isEmpty) H
theorem op_eqE {X : Cx} (hu : X.A.units < cLine) : OpR X (compareOp .Eq) rEqE := by
  intro pins s σ H x y v u Q I rx ry hq
  obtain ⟨a, b, xs, rfl, rfl, ha, hb, q⟩ := hq
  cases (show v = Value.ref a from rx)
  cases (show u = Value.ref b from ry)
  obtain ⟨z, its, k, r, e⟩ := I.hok a _ ha
  obtain ⟨z2, its2, k2, r2, e2⟩ := I.hok b _ hb
  have l2 : its2.length = 0 := by rw [← r2.length]; rfl
  cases xs with
  | nil =>
    have l1 : its.length = 0 := by rw [← r.length]; rfl
    refine SeqAt.eq_listAt (items := its.toArray) (items2 := its2.toArray) (e := fun _ => true) ⟨_, e, rfl, _, rfl⟩ ⟨_, e2, rfl, _, rfl⟩ (by rw [List.size_toArray, List.size_toArray, l1, l2]) hu (fun j h1 _ => absurd h1 (by rw [List.size_toArray, l1]; exact Nat.not_lt_zero _)) ?_
    rw [List.size_toArray, l1]
    exact ⟨.bl true, H, I, rfl, q⟩
  | cons y ys =>
    refine SeqAt.eq_list_lengthsAt (items := its.toArray) (items2 := its2.toArray) ⟨_, e, rfl, _, rfl⟩ ⟨_, e2, rfl, _, rfl⟩ (by rw [List.size_toArray, List.size_toArray, l2, ← r.length]; rfl) hu ?_
    exact ⟨.bl false, H, I, rfl, q⟩
end
abbrev s_paths_above : Stmt := topS 45
abbrev N_paths_above : List Str := ["path", "parts", "many"]
theorem sc_paths_above : FnScope N_paths_above ["path"] (defScope s_paths_above) := ⟨rfl, rfl, rfl, by decide +kernel, rfl, by decide +kernel, by decide +kernel⟩
abbrev s_directory_of : Stmt := topS 46
abbrev N_directory_of : List Str := ["path"]
theorem sc_directory_of : FnScope N_directory_of ["path"] (defScope s_directory_of) := ⟨rfl, rfl, rfl, by decide +kernel, rfl, by decide +kernel, by decide +kernel⟩
abbrev s_is_path : Stmt := topS 25
abbrev N_is_path : List Str := ["thing", "part"]
theorem sc_is_path : FnScope N_is_path ["thing"] (defScope s_is_path) := ⟨rfl, rfl, rfl, by decide +kernel, rfl, by decide +kernel, by decide +kernel⟩
/-! ### paths -/
theorem sum_joinL (s : List Nat) : ∀ ps : List (List Nat), (ps.map List.length).sum ≤ (TL.joinL s ps).length
  | [] => Nat.le_refl _
  | [p] => by
    show p.length + 0 ≤ p.length
    omega
  | p :: q :: r => by
    have h := sum_joinL s (q :: r)
    show p.length + ((q :: r).map List.length).sum ≤ (p ++ (s ++ TL.joinL s (q :: r))).length
    rw [List.length_append, List.length_append]
    omega
theorem sum_split (z y : Str) : ((Txt.split z y).map (·.length)).sum ≤ z.length := by
  have e := StrLaws.join_split z y
  have h := sum_joinL (TL.tl y) ((Txt.split z y).map TL.tl)
  rw [← TL.tl_join, e, List.map_map] at h
  have e2 : (Txt.split z y).map (fun x => x.length) = (Txt.split z y).map (List.length ∘ TL.tl) := List.map_congr_left fun x _ => rfl
  rw [e2]
  exact h
theorem sum_take (l : List Str) (i : Nat) : ((l.take i).map (·.length)).sum ≤ (l.map (·.length)).sum := by
  have e : l.map (·.length) = (l.take i).map (·.length) ++ (l.drop i).map (·.length) := by rw [← List.map_append, List.take_append_drop]
  rw [e, List.sum_append]
  omega
def noPart (p : Str) : Bool := "" == p || ("." == p || ".." == p)
def pathB (z : Str) : Bool := nameB z && !(Txt.split z "/").any noPart
/-- the paths above a path -/
def aboveP (z : Str) : List Str := (List.range ((Txt.split z "/").length - 1)).map fun i => Txt.join "/" ((Txt.split z "/").take (i + 1))
/-- the path of the directory -/
def dirP (z : Str) : Str := (Txt.rpartition z "/").1
theorem cutV_take (xs : List V) (n : Nat) (h : n ≤ xs.length) : cutV xs none (some (n : Int)) = xs.take n := by
  unfold cutV
  rw [HT.sIx_none, HT.sIx_nat, Nat.sub_zero, List.drop_zero, Nat.min_eq_left h]
section
variable {P : Program} {w : World} {K : PySem.W.Frag} {mg : Str → Option Value} {base : Heap}
def spAbove : Sp := fun vs H Q _ => ∃ z : Str, vs = [.str z] ∧ z.length ≤ 1000 ∧ ∀ p H', H p = none → Same H H' → H' p = some (.lst ((aboveP z).map V.str)) → Q (.ref p) H'
theorem ok_above {f : Addr} {fd : FuncData} {k : Nat} (F : Fun K "paths_above" "paths_above" s_paths_above f fd) (m1 : mg "range" = none) (m2 : mg "len" = none) : FnOk P w K mg base CX0 (k + 2) f fd ["path"] spAbove := by
  refine F.ok sc_paths_above (fun vs H Q E h => ?_) (fun cdv A outer s H vs Q E hr h => ?_)
  · obtain ⟨z, rfl, _⟩ := h
    rfl
  · obtain ⟨z, rfl, hz, q⟩ := h
    have hu := hu_of hr
    have nd := sc_paths_above.nd
    refine ⟨_, (pss_cons (ps_set (i := 1) nd rfl (Or.inr rfl) (pe_splitN (pe_split (pv 0) pe_str)))
      (pss_one (ps_ret (pe_lc (own := [("many", 2)]) (g := (gName 2)) (tt := tYes) rfl nd (pi_range2 (by rfl) (by assumption) (pa_cons pe_int (pa_cons (pe_callB (call_lenK K) (by rfl) (by assumption) (by decide +kernel) (pa_cons (pv 1) pa_nil)) pa_nil))) (blkOk_by (N := N_paths_above) (sc := defScope s_paths_above) (by decide +kernel)) (fun _ _ _ _ _ => (pg_name (i := 2) nd rfl (Or.inl rfl))) (fun _ _ _ _ _ => pts_nil) (fun _ _ _ _ _ => (pe_bmK K PySem.F.plainAttrs_str PySem.F.slot_str_join PySem.F.type_str_join (mt_joinK K) pe_str (pa_cons (pe_slice (sl_listK K) (pv 1) po_none (po_some (pv 2))) pa_nil))))))), ?_⟩
    walk_at "rd"
    have hz' : z.length + 2 ≤ sizeLine := Nat.le_trans (Nat.add_le_add_right hz 2) (by decide)
    have hn : (Txt.split z "/").length ≤ 1002 := Nat.le_trans (PyProof.Rows.split_le z "/") (by omega)
    refine r_split (by decide) hz' fun L hL => ?_
    walk_at "rd"
    have gL : upd H L (.lst ((Txt.split z "/").map V.str)) L = some (.lst ((Txt.split z "/").map V.str)) := upd_same
    have hn1 := PyProof.Rows.split_pos z "/"
    have hml : ((Txt.split z "/").map V.str).length = (Txt.split z "/").length := List.length_map ..
    refine ⟨_, _, rfl, ⟨by decide, by decide, by omega, by omega⟩, ?_⟩
    intro D hD
    refine lc_it (walk_range (lo := 1) (n := _)) (fun i H' => Same (upd H L (.lst ((Txt.split z "/").map V.str))) H' ∧ H' D = some (.lst (((List.range i).map fun i => Txt.join "/" ((Txt.split z "/").take (i + 1))).map V.str))) ⟨same_new hD, by rw [upd_same]; rfl⟩ (fun _ _ _ _ => True.intro) ?_ ?_
    · rintro i x Hc H' hi ⟨e, hb'⟩ ⟨rfl, hx⟩
      have hi' : i < (Txt.split z "/").length - 1 := by
        rw [hml] at hi
        omega
      have hx' : x = .int (((i + 1 : Nat) : Int)) := by rw [hx]; show V.int (1 + (i : Int)) = V.int (((i + 1 : Nat) : Int)); congr 1; omega
      subst hx'
      clear hx
      walk_at "rd"
      refine ⟨rfl, ?_⟩
      unfold tYes
      dsimp only
      rw [if_pos rfl]
      walk_at "rd"
      refine ⟨rfl, ?_⟩
      walk_at "rd"
      refine r_slL (SqL.of (e _ _ gL)) fun q1 hq1 => ?_
      rw [cutV_take _ _ (by rw [hml]; omega), ← List.map_take]
      refine ⟨_, _, _, rfl, rfl, .inl (SqL.of upd_same), ?_, ?_⟩
      · have h1 := Nat.le_trans (sum_take (Txt.split z "/") (i + 1)) (sum_split z "/")
        have h2 : ((Txt.split z "/").take (i + 1)).length ≤ 1002 := by rw [List.length_take]; omega
        have h3 : ((Txt.split z "/").take (i + 1)).length * ("/" : Str).length ≤ 1002 := by
          rw [show ("/" : Str).length = 1 from rfl, Nat.mul_one]
          exact h2
        omega
      refine ⟨_, (same_new hq1) _ _ hb', Nat.lt_of_le_of_lt (by rw [List.length_map, List.length_map, List.length_range]; omega : _ ≤ 1002) (by decide), fun b o eo => by rw [upd_ne (ne_of_none eo hD)]; exact (same_new hq1) _ _ (e _ _ eo), ?_⟩
      rw [upd_same, List.range_succ, List.map_append, List.map_append]
      rfl
    · rintro H3 ⟨e, hb'⟩
      walk_at "rd"
      refine q D H3 ((same_new hL).free hD) ((same_new hL).trans e) ?_
      rw [hb', hml]
      unfold aboveP
      congr 5
      omega
def spDirOf : Sp := fun vs H Q _ => ∃ z : Str, vs = [.str z] ∧ z.length ≤ 1000 ∧ ∀ H', Same H H' → Q (.str (dirP z)) H'
theorem ok_dirof {f : Addr} {fd : FuncData} {k : Nat} (F : Fun K "directory_of" "directory_of" s_directory_of f fd) : FnOk P w K mg base CX0 (k + 2) f fd ["path"] spDirOf := by
  refine F.ok sc_directory_of (fun vs H Q E h => ?_) (fun cdv A outer s H vs Q E hr h => ?_)
  · obtain ⟨z, rfl, _⟩ := h
    rfl
  · obtain ⟨z, rfl, hz, q⟩ := h
    have hu := hu_of hr
    have nd := sc_directory_of.nd
    refine ⟨_, (pss_one (ps_ret (pe_ix (ix_tupK K) (pe_rpart (pv 0) pe_str) pe_int (fun _ _ => rfl)))), ?_⟩
    walk_at "rd"
    refine ⟨z, _, rfl, rfl, by decide, Nat.le_trans hz (by decide), fun p hp => ?_⟩
    walk_at "rd"
    exact q _ (same_new hp)
def spIsPath : Sp := fun vs H Q _ => ∃ z : Str, vs = [.str z] ∧ z.length ≤ 1000 ∧ ∀ H', Same H H' → Q (.bl (pathB z)) H'
theorem ok_ispath {f aNP : Addr} {fd : FuncData} {k : Nat} (F : Fun K "is_path" "is_path" s_is_path f fd) (m1 : mg "any" = none) (m_NP : mg "NO_PARTS" = some (.ref aNP)) (np : ∀ H, SqT K H aNP [.str "", .str ".", .str ".."]) (c_is_name : CalT P w K mg base 2 "is_name" (spName K)) : FnOk P w K mg base CX0 (k + 3) f fd ["thing"] spIsPath := by
  refine F.ok sc_is_path (fun vs H Q E h => ?_) (fun cdv A outer s H vs Q E hr h => ?_)
  · obtain ⟨z, rfl, _⟩ := h
    rfl
  · obtain ⟨z, rfl, hz, q⟩ := h
    have hu := hu_of hr
    have nd := sc_is_path.nd
    refine ⟨_, (pss_cons (ps_if (pt_not (pt_val (pe_cc c_is_name hr (by omega) (by rfl) (pa_cons (pv 0) pa_nil))))
        (pss_one (ps_ret pe_bl))
        pss_nil)
      (pss_one (ps_ret (pe_not (pe_callB (call_anyK K) (by rfl) (by assumption) (by decide +kernel) (pa_cons (pe_lc (own := [("part", 1)]) (g := (gName 1)) (tt := tYes) rfl nd (pi_list (pe_splitN (pe_split (pv 0) pe_str))) (blkOk_by (N := N_is_path) (sc := defScope s_is_path) (by decide +kernel)) (fun _ _ _ _ _ => (pg_name (i := 1) nd rfl (Or.inl rfl))) (fun _ _ _ _ _ => pts_nil) (fun _ _ _ _ _ => (pe_cmpR (op_inK K) (pv 1) (pe_glob (v := .ref aNP) (by rfl) m_NP (by first | exact rfl | exact ⟨_, rfl⟩)) (by rfl)))) pa_nil)))))), ?_⟩
    walk_at "rd"
    refine sp_name (.inl ⟨z, rfl, by omega⟩) fun H1 e1 => ?_
    show ∃ k, V.bl (nameB z) = V.bl k ∧ _
    refine ⟨_, rfl, ?_⟩
    have hz' : z.length + 2 ≤ sizeLine := Nat.le_trans (Nat.add_le_add_right hz 2) (by decide)
    have hn : (Txt.split z "/").length ≤ 1002 := Nat.le_trans (PyProof.Rows.split_le z "/") (by omega)
    unfold pathB at q
    cases hb : nameB z with
    | false =>
      rw [hb] at q
      walk_at "rd"
      exact q _ e1
    | true =>
      rw [hb] at q
      walk_at "rd"
      refine r_split (by decide) hz' fun L hL => ?_
      refine ⟨L, rfl, ⟨_, SqL.of upd_same⟩, ?_⟩
      intro D hD
      refine lc_map (cs := Txt.split z "/") (enc := V.str) (f := fun p => V.bl (noPart p)) walk_list hD (Nat.lt_of_le_of_lt hn (by decide)) (fun H' e => SqL.of (e _ _ upd_same)) (fun x => rfl) ?_ ?_
      · intro p hp H' e Q' k'
        walk_at "rd"
        refine r_inT (np _) rfl rfl ?_
        rw [show inV (.str p) [.str "", .str ".", .str ".."] = noPart p by simp [inV, noPart, eqV]]
        exact k' _ (Same.refl _)
      · intro H' e hl
        walk_at "rd"
        refine r_any (bs := (Txt.split z "/").map noPart) (by rw [List.map_map]; exact SqL.of hl) ?_
        walk_at "rd"
        rw [List.any_map] at *
        exact q _ ((e1.trans (same_new hL)).trans e)
end
abbrev s_kind_at : Stmt := topS 54
abbrev N_kind_at : List Str := ["path", "things"]
theorem sc_kind_at : FnScope N_kind_at ["path", "things"] (defScope s_kind_at) := ⟨rfl, rfl, rfl, by decide +kernel, rfl, by decide +kernel, by decide +kernel⟩
abbrev s_is_thing : Stmt := topS 52
abbrev N_is_thing : List Str := ["thing", "kind"]
theorem sc_is_thing : FnScope N_is_thing ["thing"] (defScope s_is_thing) := ⟨rfl, rfl, rfl, by decide +kernel, rfl, by decide +kernel, by decide +kernel⟩
/-! ### tables by texts -/
section
variable {α β : Type}
def look (l : List (Str × α)) (z : Str) : Option α := (l.find? fun q => decide (q.1 = z)).map (·.2)
def putA (l : List (Str × α)) (z : Str) (x : α) : List (Str × α) := if (l.any fun q => decide (q.1 = z)) = true then l.map (fun q => if q.1 = z then (q.1, x) else q) else l ++ [(z, x)]
def dropA (l : List (Str × α)) (z : Str) : List (Str × α) := l.filter fun q => decide (q.1 ≠ z)
theorem look_nil {z : Str} : look ([] : List (Str × α)) z = none := rfl
theorem look_cons {z y : Str} {x : α} {l : List (Str × α)} : look ((y, x) :: l) z = if y = z then some x else look l z := by
  unfold look
  rw [List.find?_cons]
  by_cases h : y = z
  · rw [if_pos h]
    simp [h]
  · rw [if_neg h]
    simp [h]
theorem look_any {z : Str} : ∀ {l : List (Str × α)}, (l.any fun q => decide (q.1 = z)) = (look l z).isSome
  | [] => rfl
  | (y, x) :: l => by
    rw [List.any_cons, look_any, look_cons]
    by_cases h : y = z <;> simp [h]
theorem look_app {z : Str} {l m : List (Str × α)} : look (l ++ m) z = (look l z).or (look m z) := by
  induction l with
  | nil => rfl
  | cons q l ih =>
    obtain ⟨y, x⟩ := q
    rw [List.cons_append, look_cons, look_cons, ih]
    by_cases h : y = z <;> simp [h]
theorem look_rep {z y : Str} {x : α} : ∀ {l : List (Str × α)}, look (l.map fun q => if q.1 = z then (q.1, x) else q) y = (look l y).map fun v => if y = z then x else v
  | [] => rfl
  | (k, v) :: l => by
    rw [List.map_cons, look_cons]
    by_cases h : k = z
    · rw [if_pos h, look_cons, look_rep]
      by_cases g : k = y
      · rw [if_pos g, if_pos g, Option.map_some, if_pos (g ▸ h)]
      · rw [if_neg g, if_neg g]
    · rw [if_neg h, look_cons, look_rep]
      by_cases g : k = y
      · rw [if_pos g, if_pos g, Option.map_some, if_neg (g ▸ h)]
      · rw [if_neg g, if_neg g]
theorem look_put {l : List (Str × α)} {z y : Str} {x : α} : look (putA l z x) y = if y = z then some x else look l y := by
  unfold putA
  rw [look_any]
  cases h : look l z with
  | some v =>
    rw [if_pos (by rfl), look_rep]
    by_cases g : y = z
    · rw [if_pos g, g, h]
      simp
    · rw [if_neg g]
      cases look l y <;> simp [g]
  | none =>
    rw [if_neg (by simp), look_app, look_cons, look_nil]
    by_cases g : y = z
    · rw [if_pos g, g, h, if_pos rfl]
      rfl
    · rw [if_neg g, if_neg (Ne.symm g), Option.or_none]
theorem look_drop {z y : Str} : ∀ {l : List (Str × α)}, look (dropA l z) y = if y = z then none else look l y
  | [] => by simp [dropA, look]
  | (k, v) :: l => by
    unfold dropA
    rw [List.filter_cons]
    by_cases h : k = z
    · rw [if_neg (by simp [h])]
      show look (dropA l z) y = _
      rw [look_drop, look_cons]
      by_cases g : y = z
      · rw [if_pos g, if_pos g]
      · rw [if_neg g, if_neg g, if_neg (fun e => g (e.symm.trans h))]
    · rw [if_pos (by simp [h]), look_cons]
      show (if k = y then some v else look (dropA l z) y) = _
      rw [look_drop, look_cons]
      by_cases g : k = y
      · rw [if_pos g, if_pos g, if_neg (g ▸ h)]
      · rw [if_neg g, if_neg g]
theorem put_len {l : List (Str × α)} {z : Str} {x : α} : (putA l z x).length ≤ l.length + 1 := by
  unfold putA
  split
  · rw [List.length_map]; omega
  · rw [List.length_append]; exact Nat.le_refl _
/-- the dict of what stands for a table, one by one -/
def TabR (R : V → α → Prop) (ps : List (Key × V)) (l : List (Str × α)) : Prop := Paired (fun p q => p.1 = Sum.inr q.1 ∧ R p.2 q.2) ps l
theorem TabR.mono {R S : V → α → Prop} {ps : List (Key × V)} {l : List (Str × α)} (h : TabR R ps l) (k : ∀ v x, R v x → S v x) : TabR S ps l := Paired.mapP h fun _ _ g => ⟨g.1, k _ _ g.2⟩
theorem TabR.len {R : V → α → Prop} {ps : List (Key × V)} {l : List (Str × α)} (h : TabR R ps l) : ps.length = l.length := Paired.length h
theorem TabR.keys {R : V → α → Prop} : ∀ {ps : List (Key × V)} {l : List (Str × α)}, TabR R ps l → ps.map (·.1) = (l.map (·.1)).map Sum.inr
  | [], [], .nil => rfl
  | p :: ps, q :: l, .cons h r => by
    rw [List.map_cons, List.map_cons, List.map_cons, TabR.keys r, h.1]
theorem TabR.get {R : V → α → Prop} {z : Str} : ∀ {ps : List (Key × V)} {l : List (Str × α)}, TabR R ps l → (valV ps (Sum.inr z) = none ∧ look l z = none) ∨ ∃ v x, valV ps (Sum.inr z) = some v ∧ look l z = some x ∧ R v x
  | [], [], .nil => .inl ⟨rfl, rfl⟩
  | p :: ps, (y, x) :: l, .cons h r => by
    by_cases g : y = z
    · exact .inr ⟨p.2, x, valV_pos (by rw [h.1, g]), by rw [look_cons, if_pos g], h.2⟩
    · rw [valV_neg (p := p) (by rw [h.1]; exact fun e => g (Sum.inr.inj e)), look_cons, if_neg g]
      exact TabR.get r
theorem TabR.any {R : V → α → Prop} {z : Str} {ps : List (Key × V)} {l : List (Str × α)} (h : TabR R ps l) : (ps.any fun p => decide (p.1 = Sum.inr z)) = l.any fun q => decide (q.1 = z) := by
  rw [valV_any, look_any]
  rcases h.get (z := z) with ⟨h1, h2⟩ | ⟨v, x, h1, h2, _⟩ <;> rw [h1, h2] <;> rfl
theorem TabR.rep {R : V → α → Prop} {z : Str} {v : V} {x : α} (hv : R v x) : ∀ {ps : List (Key × V)} {l : List (Str × α)}, TabR R ps l → TabR R (ps.map fun p => if p.1 = Sum.inr z then (p.1, v) else p) (l.map fun q => if q.1 = z then (q.1, x) else q)
  | [], [], .nil => .nil
  | p :: ps, (y, u) :: l, .cons h r => by
    refine .cons ?_ (TabR.rep hv r)
    dsimp only
    by_cases g : y = z
    · rw [if_pos (by rw [h.1, g]), if_pos g]
      exact ⟨h.1, hv⟩
    · rw [if_neg (by rw [h.1]; exact fun e => g (Sum.inr.inj e)), if_neg g]
      exact h
theorem TabR.put {R : V → α → Prop} {z : Str} {v : V} {x : α} {ps : List (Key × V)} {l : List (Str × α)} (h : TabR R ps l) (hv : R v x) : TabR R (putK ps (Sum.inr z) v) (putA l z x) := by
  unfold putK putA
  rw [h.any]
  split
  · exact h.rep hv
  · exact paired_snoc h ⟨rfl, hv⟩
theorem TabR.drop {R : V → α → Prop} {z : Str} : ∀ {ps : List (Key × V)} {l : List (Str × α)}, TabR R ps l → TabR R (dropK ps (Sum.inr z)) (dropA l z)
  | [], [], .nil => .nil
  | p :: ps, (y, u) :: l, .cons h r => by
    unfold dropK dropA
    rw [List.filter_cons, List.filter_cons]
    by_cases g : y = z
    · rw [if_neg (by rw [h.1, g]; simp), if_neg (by simp [g])]
      exact TabR.drop r
    · rw [if_pos (by rw [h.1]; simp [g]), if_pos (by simp [g])]
      exact .cons h (TabR.drop r)
end
/-! ### things -/
inductive Thg where
  | dir (m t : Int)
  | file (y : Array UInt8) (m t : Int)
  | sym (g : Str) (m t : Int)
  | lnk (f : Str)
def Thg.vals : Thg → List V
  | .dir m t => [.str "directory", .int m, .int t]
  | .file y m t => [.str "file", .byt y, .int m, .int t]
  | .sym g m t => [.str "symlink", .str g, .int m, .int t]
  | .lnk f => [.str "link", .str f]
def Thg.kind : Thg → Str
  | .dir .. => "directory"
  | .file .. => "file"
  | .sym .. => "symlink"
  | .lnk .. => "link"
theorem Thg.vals0 (x : Thg) : ∃ r, x.vals = .str x.kind :: r := by cases x <;> exact ⟨_, rfl⟩
/-- a value is a thing -/
def Thg.At (K : PySem.W.Frag) (H : Hp) (v : V) (x : Thg) : Prop := ∃ t, v = .ref t ∧ SqT K H t x.vals
theorem Thg.At.same {K : PySem.W.Frag} {H H' : Hp} {v : V} {x : Thg} (e : Same H H') (h : Thg.At K H v x) : Thg.At K H' v x := by
  obtain ⟨t, h1, h2⟩ := h
  refine ⟨t, h1, ?_⟩
  rcases h2 with h2 | h2
  · exact .inl (h2.elim (fun g => .inl (e _ _ g)) fun ⟨o, g⟩ => .inr ⟨o, e _ _ g⟩)
  · exact .inr h2
theorem tyT_of {K : PySem.W.Frag} {H : Hp} {t : Addr} {xs : List V} (h : SqT K H t xs) : TyX K H (.ref t) (.type "tuple") := by
  rcases h with (h | ⟨o, h⟩) | ⟨o, _, _, e, c, _⟩
  · exact .base (.tup h)
  · exact .fTuple h
  · exact .kTuple e c
/-- a dict of things, to be read -/
def ThR (K : PySem.W.Frag) (H : Hp) (D : Addr) (l : List (Str × Thg)) : Prop := ∃ ps, Rd H D (.dK ps) ∧ TabR (Thg.At K H) ps l
def kindA (l : List (Str × Thg)) (z : Str) : Str := ((look l z).map Thg.kind).getD ""
section
variable {P : Program} {w : World} {K : PySem.W.Frag} {mg : Str → Option Value} {base : Heap}
def spKindAt (K : PySem.W.Frag) : Sp := fun vs H Q _ => ∃ (z : Str) (D : Addr) (l : List (Str × Thg)), vs = [.str z, .ref D] ∧ ThR K H D l ∧ Q (.str (kindA l z)) H
theorem ok_kindat {f : Addr} {fd : FuncData} {k : Nat} (F : Fun K "kind_at" "kind_at" s_kind_at f fd) : FnOk P w K mg base CX0 (k + 2) f fd ["path", "things"] (spKindAt K) := by
  refine F.ok sc_kind_at (fun vs H Q E h => ?_) (fun cdv A outer s H vs Q E hr h => ?_)
  · obtain ⟨z, D, l, rfl, _⟩ := h
    rfl
  · obtain ⟨z, D, l, rfl, ⟨ps, hD, ht⟩, q⟩ := h
    have hu := hu_of hr
    have nd := sc_kind_at.nd
    unfold kindA at q
    refine ⟨_, (pss_one (ps_ret (pe_ifExp (pt_cmp (pc_din hu (pv 0) (pv 1))) (pe_ix (ix_tupK K) (pe_dget hu (pv 1) (pv 0) (fun _ _ => rfl)) pe_int (fun _ _ => rfl)) pe_str))), ?_⟩
    walk_at "rd"
    refine ⟨D, valV ps (Sum.inr z), rfl, .inl ⟨ps, Sum.inr z, hD, rfl, rfl⟩, _, rfl, ?_⟩
    rcases ht.get (z := z) with ⟨h1, h2⟩ | ⟨v, x, h1, h2, t, rfl, hx⟩
    · rw [h1]
      rw [h2] at q
      walk_at "rd"
      exact q
    · rw [h1]
      rw [h2] at q
      obtain ⟨r, hr'⟩ := x.vals0
      rw [hr'] at hx
      rw [if_pos (show (some (V.ref t)).isSome = true from rfl)]
      walk_at "rd"
      refine ⟨D, .ref t, rfl, .inl ⟨ps, Sum.inr z, hD, rfl, h1.symm⟩, ?_⟩
      walk_at "rd"
      refine r_ixT (i := 0) (v := .str x.kind) hx (atI_nat (j := 0) rfl) ?_
      exact q
/-- a thing that may stand in an entry -/
def Thg.Ok : Thg → Prop
  | .dir m t => 0 ≤ m ∧ m ≤ 4095 ∧ 0 ≤ t ∧ t ≤ 8589934591
  | .file y m t => y.size ≤ 4096 ∧ 0 ≤ m ∧ m ≤ 4095 ∧ 0 ≤ t ∧ t ≤ 8589934591
  | .sym g m t => nameB g = true ∧ 0 ≤ m ∧ m ≤ 4095 ∧ 0 ≤ t ∧ t ≤ 8589934591
  | .lnk _ => True
def spIsThing (K : PySem.W.Frag) : Sp := fun vs H Q _ => ∃ (v : V) (x : Thg), vs = [v] ∧ Thg.At K H v x ∧ x.Ok ∧ ∀ H', Same H H' → Q (.bl true) H'
theorem ok_isthing {f : Addr} {fd : FuncData} {k : Nat} (F : Fun K "is_thing" "is_thing" s_is_thing f fd) (m1 : mg "isinstance" = none) (m2 : mg "tuple" = none) (m3 : mg "len" = none) (m4 : mg "str" = none) (c_isdata : CalT P w K mg base 2 "is_data" spIsData) (c_is_name : CalT P w K mg base 2 "is_name" (spName K))
    (c_ismode : CalT P w K mg base 3 "is_mode" (spIn 0 4095)) (c_istime : CalT P w K mg base 3 "is_time" (spIn 0 8589934591)) : FnOk P w K mg base CX0 (k + 4) f fd ["thing"] (spIsThing K) := by
  refine F.ok sc_is_thing (fun vs H Q E h => ?_) (fun cdv A outer s H vs Q E hr h => ?_)
  · obtain ⟨v, x, rfl, _⟩ := h
    rfl
  · obtain ⟨v, x, rfl, ⟨t, rfl, hx⟩, hok, q⟩ := h
    have hu := hu_of hr
    have nd := sc_is_thing.nd
    refine ⟨_, (pss_cons (ps_if (PW.pt (pw_or (pt_not (pt_val (pe_callB (call_isiK1 K) (by rfl) (by assumption) (by decide +kernel) (pa_cons (pv 0) (pa_cons (pe_bltn (v := .ty "tuple") (by rfl) (by assumption) (by decide +kernel) rfl) pa_nil))))) (pw_or1 (pt_not (pt_chain op_le op_le pe_int (pe_callB (call_lenK K) (by rfl) (by assumption) (by decide +kernel) (pa_cons (pv 0) pa_nil)) pe_int)))))
        (pss_one (ps_ret pe_bl))
        pss_nil)
      (pss_cons (ps_set (i := 1) nd rfl (Or.inl rfl) (pe_ix (ix_tupK K) (pv 0) pe_int (fun _ _ => rfl)))
      (pss_cons (ps_if (pt_cmpR op_eq (pe_callB (call_lenK K) (by rfl) (by assumption) (by decide +kernel) (pa_cons (pv 0) pa_nil)) pe_int (nomark _))
        (pss_one (ps_ret (pe_and (pe_cmpR op_eq (pv 1) pe_str (nomark _)) (pe_one (pe_callB (call_isiK1 K) (by rfl) (by assumption) (by decide +kernel) (pa_cons (pe_ix (ix_tupK K) (pv 0) pe_int (fun _ _ => rfl)) (pa_cons (pe_bltn (v := .ty "str") (by rfl) (by assumption) (by decide +kernel) rfl) pa_nil)))))))
        pss_nil)
      (pss_cons (ps_if (PW.pt (pw_or (pt_not (pt_val (pe_cc c_ismode hr (by omega) (by rfl) (pa_cons (pe_ix (ix_tupK K) (pv 0) (pe_un un_neg pe_int) (fun _ _ => rfl)) pa_nil)))) (pw_or1 (pt_not (pt_val (pe_cc c_istime hr (by omega) (by rfl) (pa_cons (pe_ix (ix_tupK K) (pv 0) (pe_un un_neg pe_int) (fun _ _ => rfl)) pa_nil)))))))
        (pss_one (ps_ret pe_bl))
        pss_nil)
      (pss_cons (ps_if (pt_cmpR op_eq (pe_callB (call_lenK K) (by rfl) (by assumption) (by decide +kernel) (pa_cons (pv 0) pa_nil)) pe_int (nomark _))
        (pss_one (ps_ret (pe_cmpR op_eq (pv 1) pe_str (nomark _))))
        pss_nil)
      (pss_one (ps_ret (pe_or (pe_and (pe_cmpR op_eq (pv 1) pe_str (nomark _)) (pe_one (pe_cc c_isdata hr (by omega) (by rfl) (pa_cons (pe_ix (ix_tupK K) (pv 0) pe_int (fun _ _ => rfl)) pa_nil)))) (pe_one (pe_and (pe_cmpR op_eq (pv 1) pe_str (nomark _)) (pe_one (pe_cc c_is_name hr (by omega) (by rfl) (pa_cons (pe_ix (ix_tupK K) (pv 0) pe_int (fun _ _ => rfl)) pa_nil))))))))))))), ?_⟩
    have hT := tyT_of hx
    cases x with
    | lnk f =>
      have hx : SqT K H t [.str "link", .str f] := hx
      walk_at "rd"
      refine r_iteD (fun _ => ?_) (fun h => absurd (by simp) h)
      walk_at "rd"
      refine r_iteD (fun _ => ?_) (fun h => absurd (by simp) h)
      walk_at "rd"
      refine r_iteD (fun _ => ?_) (fun h => absurd (by simp) h)
      walk_at "rd"
      exact q _ (Same.refl _)
    | dir m i =>
      have hx : SqT K H t [.str "directory", .int m, .int i] := hx
      obtain ⟨h1, h2, h3, h4⟩ := hok
      walk_at "rd"
      refine r_iteD (fun _ => ?_) (fun h => absurd (by simp) h)
      walk_at "rd"
      refine sp_in h1 h2 ?_
      walk_at "rd"
      refine sp_in h3 h4 ?_
      walk_at "rd"
      refine r_iteD (fun _ => ?_) (fun h => absurd (by simp) h)
      walk_at "rd"
      exact q _ (Same.refl _)
    | file y m i =>
      have hx : SqT K H t [.str "file", .byt y, .int m, .int i] := hx
      obtain ⟨h0, h1, h2, h3, h4⟩ := hok
      walk_at "rd"
      refine r_iteD (fun _ => ?_) (fun h => absurd (by simp) h)
      walk_at "rd"
      refine sp_in h1 h2 ?_
      walk_at "rd"
      refine sp_in h3 h4 ?_
      walk_at "rd"
      refine r_iteD (fun _ => ?_) (fun h => absurd (by simp) h)
      walk_at "rd"
      refine sp_isdata h0 ?_
      walk_at "rd"
      exact q _ (Same.refl _)
    | sym g m i =>
      have hx : SqT K H t [.str "symlink", .str g, .int m, .int i] := hx
      obtain ⟨h0, h1, h2, h3, h4⟩ := hok
      walk_at "rd"
      refine r_iteD (fun _ => ?_) (fun h => absurd (by simp) h)
      walk_at "rd"
      refine sp_in h1 h2 ?_
      walk_at "rd"
      refine sp_in h3 h4 ?_
      walk_at "rd"
      refine r_iteD (fun _ => ?_) (fun h => absurd (by simp) h)
      walk_at "rd"
      refine sp_name (.inl ⟨g, rfl, by have := (of_name h0).2.1; omega⟩) fun H1 e1 => ?_
      walk_at "rd"
      rw [show nameV (.str g) = true from h0]
      exact q _ e1
end
abbrev s_is_entry : Stmt := topS 51
abbrev N_is_entry : List Str := ["thing"]
theorem sc_is_entry : FnScope N_is_entry ["thing"] (defScope s_is_entry) := ⟨rfl, rfl, rfl, by decide +kernel, rfl, by decide +kernel, by decide +kernel⟩
abbrev s_stands_right : Stmt := topS 53
abbrev N_stands_right : List Str := ["path", "things", "above", "thing"]
theorem sc_stands_right : FnScope N_stands_right ["path", "things"] (defScope s_stands_right) := ⟨rfl, rfl, rfl, by decide +kernel, rfl, by decide +kernel, by decide +kernel⟩
/-! ### entries -/
theorem dec_strV {a b : Str} : decide (V.str a = V.str b) = decide (a = b) := decide_eq_decide.mpr ⟨V.str.inj, congrArg V.str⟩
theorem pathB_len {z : Str} (h : pathB z = true) : z.length ≤ 1000 := by
  unfold pathB at h
  rw [Bool.and_eq_true] at h
  have := (of_name h.1).2.1
  omega
def EntAt (K : PySem.W.Frag) (H : Hp) (v : V) (q : Str × Thg) : Prop := ∃ e u, v = .ref e ∧ SqT K H e [.str q.1, u] ∧ Thg.At K H u q.2
theorem sqT_same {K : PySem.W.Frag} {H H' : Hp} {t : Addr} {xs : List V} (e : Same H H') (h : SqT K H t xs) : SqT K H' t xs := by
  rcases h with h2 | h2
  · exact .inl (h2.elim (fun g => .inl (e _ _ g)) fun ⟨o, g⟩ => .inr ⟨o, e _ _ g⟩)
  · exact .inr h2
theorem EntAt.same {K : PySem.W.Frag} {H H' : Hp} {v : V} {q : Str × Thg} (s : Same H H') (h : EntAt K H v q) : EntAt K H' v q := by
  obtain ⟨e, u, h1, h2, h3⟩ := h
  exact ⟨e, u, h1, sqT_same s h2, h3.same s⟩
theorem ThR.same {K : PySem.W.Frag} {H H' : Hp} {D : Addr} {l : List (Str × Thg)} (s : Same H H') (h : ThR K H D l) : ThR K H' D l := by
  obtain ⟨ps, h1, h2⟩ := h
  exact ⟨ps, h1.elim (fun g => .inl (s _ _ g)) fun ⟨o, g⟩ => .inr ⟨o, s _ _ g⟩, h2.mono fun _ _ g => g.same s⟩
def standsB (l : List (Str × Thg)) (z : Str) : Bool := (decide (dirP z = "") || decide (kindA l (dirP z) = "directory")) && (match look l z with | some (.lnk f) => decide (kindA l f = "file") | _ => true)
section
variable {P : Program} {w : World} {K : PySem.W.Frag} {mg : Str → Option Value} {base : Heap}
def spIsEntry (K : PySem.W.Frag) : Sp := fun vs H Q _ => ∃ (v : V) (q : Str × Thg), vs = [v] ∧ EntAt K H v q ∧ pathB q.1 = true ∧ q.2.Ok ∧ ∀ H', Same H H' → Q (.bl true) H'
theorem ok_isentry {f : Addr} {fd : FuncData} {k : Nat} (F : Fun K "is_entry" "is_entry" s_is_entry f fd) (m1 : mg "isinstance" = none) (m2 : mg "tuple" = none) (m3 : mg "len" = none) (c_is_path : CalT P w K mg base 3 "is_path" spIsPath) (c_isthing : CalT P w K mg base 4 "is_thing" (spIsThing K)) : FnOk P w K mg base CX0 (k + 5) f fd ["thing"] (spIsEntry K) := by
  refine F.ok sc_is_entry (fun vs H Q E h => ?_) (fun cdv A outer s H vs Q E hr h => ?_)
  · obtain ⟨v, x, rfl, _⟩ := h
    rfl
  · obtain ⟨v, ⟨z, x⟩, rfl, ⟨e, u, rfl, hx, hu'⟩, hp, hok, q⟩ := h
    have hu := hu_of hr
    have nd := sc_is_entry.nd
    have hT := tyT_of hx
    have hx : SqT K H e [.str z, u] := hx
    refine ⟨_, (pss_cons (ps_if (PW.pt (pw_or (pt_not (pt_val (pe_callB (call_isiK1 K) (by rfl) (by assumption) (by decide +kernel) (pa_cons (pv 0) (pa_cons (pe_bltn (v := .ty "tuple") (by rfl) (by assumption) (by decide +kernel) rfl) pa_nil))))) (pw_or1 (pt_cmpR op_ne (pe_callB (call_lenK K) (by rfl) (by assumption) (by decide +kernel) (pa_cons (pv 0) pa_nil)) pe_int (nomark _)))))
        (pss_one (ps_ret pe_bl))
        pss_nil)
      (pss_one (ps_ret (pe_and (pe_cc c_is_path hr (by omega) (by rfl) (pa_cons (pe_ix (ix_tupK K) (pv 0) pe_int (fun _ _ => rfl)) pa_nil)) (pe_one (pe_cc c_isthing hr (by omega) (by rfl) (pa_cons (pe_ix (ix_tupK K) (pv 0) pe_int (fun _ _ => rfl)) pa_nil))))))), ?_⟩
    walk_at "rd"
    refine ⟨z, rfl, pathB_len hp, fun H1 e1 => ?_⟩
    have hx1 := sqT_same e1 hx
    rw [hp]
    walk_at "rd"
    refine ⟨u, x, rfl, hu'.same e1, hok, fun H2 e2 => ?_⟩
    exact q _ (e1.trans e2)
def tStR (K : PySem.W.Frag) : TS := tSeq (tAsg (tDGet (tVar 1) (tVar 0)) (gName 3)) (tRet (tOrV (tOp rNe (tOp (rIxT K) (tVar 3) (tC (V.int 0))) (tC (V.str (Str.ofString "link")))) (tOp rEq (tCall (spKindAt K) [] E0 (tCons (tOp (rIxT K) (tVar 3) (tC (V.int 1))) (tCons (tVar 1) tNil))) (tC (V.str (Str.ofString "file"))))))
theorem ok_stR {H : Hp} {D : Ends} {A : Addr} {z : Str} {v2 v3 : Option V} {l : List (Str × Thg)} {x : Thg} (hD : ThR K H A l) (hl : look l z = some x)
    (q : D.rt (.bl (match look l z with | some (.lnk f) => decide (kindA l f = "file") | _ => true)) H) : tStR K D [some (.str z), some (.ref A), v2, v3] H := by
  obtain ⟨ps, h1, h2⟩ := id hD
  rcases h2.get (z := z) with ⟨_, g⟩ | ⟨v, y, g1, g2, t, rfl, ht⟩
  · rw [g] at hl; cases hl
  · rw [hl] at g2
    cases g2
    rw [hl] at q
    unfold tStR
    walk_at "rd"
    refine ⟨A, .ref t, rfl, .inl ⟨ps, Sum.inr z, h1, rfl, g1.symm⟩, ?_⟩
    cases x with
    | lnk f =>
      have hx : SqT K H t [.str "link", .str f] := ht
      walk_at "rd"
      refine ⟨f, A, l, rfl, hD, ?_⟩
      walk_at "rd"
      rw [dec_strV]
      exact q
    | dir m i =>
      have hx : SqT K H t [.str "directory", .int m, .int i] := ht
      walk_at "rd"
      rw [decide_eq_false (by decide +kernel : ¬ V.str "directory" = V.str "link")]
      walk_at "rd"
      exact q
    | file y m i =>
      have hx : SqT K H t [.str "file", .byt y, .int m, .int i] := ht
      walk_at "rd"
      rw [decide_eq_false (by decide +kernel : ¬ V.str "file" = V.str "link")]
      walk_at "rd"
      exact q
    | sym g m i =>
      have hx : SqT K H t [.str "symlink", .str g, .int m, .int i] := ht
      walk_at "rd"
      rw [decide_eq_false (by decide +kernel : ¬ V.str "symlink" = V.str "link")]
      walk_at "rd"
      exact q
def spStands (K : PySem.W.Frag) : Sp := fun vs H Q _ => ∃ (z : Str) (D : Addr) (l : List (Str × Thg)) (x : Thg), vs = [.str z, .ref D] ∧ z.length ≤ 1000 ∧ ThR K H D l ∧ look l z = some x ∧ ∀ H', Same H H' → Q (.bl (standsB l z)) H'
theorem ok_stands {f : Addr} {fd : FuncData} {k : Nat} (F : Fun K "stands_right" "stands_right" s_stands_right f fd) (c_dirof : CalT P w K mg base 2 "directory_of" spDirOf) (c_kind_at : CalT P w K mg base 2 "kind_at" (spKindAt K)) : FnOk P w K mg base CX0 (k + 3) f fd ["path", "things"] (spStands K) := by
  refine F.ok sc_stands_right (fun vs H Q E h => ?_) (fun cdv A outer s H vs Q E hr h => ?_)
  · obtain ⟨z, D, l, x, rfl, _⟩ := h
    rfl
  · obtain ⟨z, D, l, x, rfl, hz, hD, hl, q⟩ := h
    have hu := hu_of hr
    have nd := sc_stands_right.nd
    refine ⟨_, (pss_cons (ps_set (i := 2) nd rfl (Or.inl rfl) (pe_cc c_dirof hr (by omega) (by rfl) (pa_cons (pv 0) pa_nil)))
      (pss_cons (ps_if (PW.pt (pw_and (pt_cmpR op_ne (pv 2) pe_str (nomark _)) (pw_and1 (pt_cmpR op_ne (pe_cc c_kind_at hr (by omega) (by rfl) (pa_cons (pv 2) (pa_cons (pv 1) pa_nil))) pe_str (nomark _)))))
        (pss_one (ps_ret pe_bl))
        pss_nil)
      (pss_cons (ps_set (i := 3) nd rfl (Or.inl rfl) (pe_dget hu (pv 1) (pv 0) (fun _ _ => rfl)))
      (pss_one (ps_ret (pe_or (pe_cmpR op_ne (pe_ix (ix_tupK K) (pv 3) pe_int (fun _ _ => rfl)) pe_str (nomark _)) (pe_one (pe_cmpR op_eq (pe_cc c_kind_at hr (by omega) (by rfl) (pa_cons (pe_ix (ix_tupK K) (pv 3) pe_int (fun _ _ => rfl)) (pa_cons (pv 1) pa_nil))) pe_str (nomark _))))))))), ?_⟩
    walk_at "rd"
    refine ⟨z, rfl, hz, fun H1 e1 => ?_⟩
    have hD1 := hD.same e1
    walk_at "rd"
    rw [dec_strV]
    unfold standsB at q
    cases hA : decide (dirP z = "") with
    | true =>
      rw [hA, Bool.true_or, Bool.true_and] at q
      refine r_iteF (r_iteF (r_next ?_))
      exact ok_stR (D := { nx := fun _ H' => Q V.non H', rt := Q }) (v2 := some (.str (dirP z))) (v3 := none) hD1 hl (q _ e1)
    | false =>
      rw [hA, Bool.false_or] at q
      walk_at "rd"
      refine ⟨dirP z, D, l, rfl, hD1, ?_⟩
      walk_at "rd"
      rw [dec_strV]
      cases hB : decide (kindA l (dirP z) = "directory") with
      | true =>
        rw [hB, Bool.true_and] at q
        refine r_iteF (r_next ?_)
        exact ok_stR (D := { nx := fun _ H' => Q V.non H', rt := Q }) (v2 := some (.str (dirP z))) (v3 := none) hD1 hl (q _ e1)
      | false =>
        rw [hB, Bool.false_and] at q
        walk_at "rd"
        exact q _ e1
end
abbrev s_are_entries : Stmt := topS 50
abbrev N_are_entries : List Str := ["thing", "things", "entry", "path"]
theorem sc_are_entries : FnScope N_are_entries ["thing"] (defScope s_are_entries) := ⟨rfl, rfl, rfl, by decide +kernel, rfl, by decide +kernel, by decide +kernel⟩
/-! ### all the entries -/
/-- a list of entries -/
def EntL (K : PySem.W.Frag) (H : Hp) (E : Addr) (l : List (Str × Thg)) : Prop := ∃ vs : List V, SqL K H E vs ∧ Paired (EntAt K H) vs l
def NoDup (l : List (Str × Thg)) : Prop := (l.map (·.1)).Nodup
/-- entries of a house -/
structure EntOk (l : List (Str × Thg)) : Prop where
  path : ∀ q ∈ l, pathB q.1 = true ∧ q.2.Ok
  nd : NoDup l
  st : ∀ q ∈ l, standsB l q.1 = true
theorem look_none {α : Type} {z : Str} : ∀ {l : List (Str × α)}, z ∉ l.map (·.1) → look l z = none
  | [], _ => rfl
  | (y, x) :: l, h => by
    rw [List.map_cons, List.mem_cons, not_or] at h
    rw [look_cons, if_neg (Ne.symm h.1), look_none h.2]
theorem put_new {α : Type} {l : List (Str × α)} {z : Str} {x : α} (h : look l z = none) : putA l z x = l ++ [(z, x)] := by
  unfold putA
  rw [look_any, h, if_neg (by simp)]
theorem look_nd {α : Type} {z : Str} {x : α} : ∀ {l : List (Str × α)}, (l.map (·.1)).Nodup → (z, x) ∈ l → look l z = some x
  | [], _, h => nomatch h
  | (y, u) :: l, nd, h => by
    rw [List.map_cons, List.nodup_cons] at nd
    rw [look_cons]
    rcases List.mem_cons.mp h with e | h
    · cases e
      rw [if_pos rfl]
    · rw [if_neg (fun e => nd.1 (by rw [e]; exact List.mem_map.mpr ⟨_, h, rfl⟩)), look_nd nd.2 h]
theorem nd_take {α : Type} {l : List (Str × α)} {i : Nat} {z : Str} {x : α} (nd : (l.map (·.1)).Nodup) (h : l[i]? = some (z, x)) : look (l.take i) z = none := by
  refine look_none fun hm => ?_
  have hi := (List.getElem?_eq_some_iff.mp h).1
  have e : l = l.take i ++ (z, x) :: l.drop (i + 1) := by
    rw [← (List.getElem?_eq_some_iff.mp h).2, List.getElem_cons_drop, List.take_append_drop]
  rw [e, List.map_append, List.nodup_append] at nd
  exact nd.2.2 z hm z (by simp) rfl
theorem sqT_upd {K : PySem.W.Frag} {H : Hp} {t D : Addr} {xs : List V} {ps : List (Key × V)} {o : HO} (hD : Rd H D (.dK ps)) (h : SqT K H t xs) : SqT K (upd H D o) t xs := by
  rcases h with h | h
  · refine .inl ?_
    have n : t ≠ D := fun e => by
      subst e
      rcases hD with hD | ⟨o1, hD⟩ <;> rcases h with h | ⟨o2, h⟩ <;> rw [hD] at h <;> cases h
    rcases h with h | ⟨o2, h⟩
    · exact .inl (by rw [upd_ne n]; exact h)
    · exact .inr ⟨o2, by rw [upd_ne n]; exact h⟩
  · exact .inr h
theorem Thg.At.upd {K : PySem.W.Frag} {H : Hp} {D : Addr} {v : V} {x : Thg} {ps : List (Key × V)} {o : HO} (hD : Rd H D (.dK ps)) (h : Thg.At K H v x) : Thg.At K (L2.upd H D o) v x := by
  obtain ⟨t, h1, h2⟩ := h
  exact ⟨t, h1, sqT_upd hD h2⟩
theorem tyL_of {K : PySem.W.Frag} {H : Hp} {t : Addr} {xs : List V} (h : SqL K H t xs) : TyX K H (.ref t) (.type "list") := by
  rcases h with (h | ⟨o, h⟩) | ⟨o, _, _, e, c, _⟩
  · exact .base (.lst h)
  · exact .base (.frz h)
  · exact .kList e c
section
variable {P : Program} {w : World} {K : PySem.W.Frag} {mg : Str → Option Value} {base : Heap}
def spEntries (K : PySem.W.Frag) : Sp := fun vs H Q _ => ∃ (E : Addr) (l : List (Str × Thg)), vs = [.ref E] ∧ EntL K H E l ∧ l.length ≤ 1000 ∧ EntOk l ∧ ∀ H', Same H H' → Q (.bl true) H'
theorem ok_entries {f : Addr} {fd : FuncData} {k : Nat} (F : Fun K "are_entries" "are_entries" s_are_entries f fd) (m1 : mg "isinstance" = none) (m2 : mg "tuple" = none) (m3 : mg "len" = none) (m4 : mg "list" = none) (m5 : mg "all" = none)
    (c_isentry : CalT P w K mg base 5 "is_entry" (spIsEntry K)) (c_stands : CalT P w K mg base 3 "stands_right" (spStands K)) : FnOk P w K mg base CX0 (k + 6) f fd ["thing"] (spEntries K) := by
  refine F.ok sc_are_entries (fun vs H Q E h => ?_) (fun cdv A outer s H vs Q E hr h => ?_)
  · obtain ⟨v, x, rfl, _⟩ := h
    rfl
  · obtain ⟨E, l, rfl, ⟨es, hE, hp⟩, hz, hok, q⟩ := h
    have hu := hu_of hr
    have nd := sc_are_entries.nd
    have hT := tyL_of hE
    have el : es.length = l.length := Paired.length hp
    refine ⟨_, (pss_cons (ps_if (PW.pt (pw_or (pt_not (pt_val (pe_callB (call_isiK2 K) (by rfl) (by assumption) (by decide +kernel) (pa_cons (pv 0) (pa_cons (pe_tup (pa_cons (pe_bltn (v := .ty "list") (by rfl) (by assumption) (by decide +kernel) rfl) (pa_cons (pe_bltn (v := .ty "tuple") (by rfl) (by assumption) (by decide +kernel) rfl) pa_nil))) pa_nil))))) (pw_or1 (pt_not (pt_val (pe_callB (call_allK K) (by rfl) (by assumption) (by decide +kernel) (pa_cons (pe_lc (own := [("entry", 2)]) (g := (gName 2)) (tt := tYes) rfl nd (pi_list (pv 0)) (blkOk_by (N := N_are_entries) (sc := defScope s_are_entries) (by decide +kernel)) (fun _ _ _ _ _ => (pg_name (i := 2) nd rfl (Or.inl rfl))) (fun _ _ _ _ _ => pts_nil) (fun _ _ _ _ _ => (pe_cc c_isentry hr (by omega) (by rfl) (pa_cons (pv 2) pa_nil)))) pa_nil)))))))
        (pss_one (ps_ret pe_bl))
        pss_nil)
      (pss_cons (ps_set (i := 1) nd rfl (Or.inr rfl) (pe_dc (own := [("entry", 2)]) (g := (gName 2)) (tt := tYes) rfl nd (pi_list (pv 0)) (blkOk_by (N := N_are_entries) (sc := defScope s_are_entries) (by decide +kernel)) (fun _ _ _ _ _ => (pg_name (i := 2) nd rfl (Or.inl rfl))) (fun _ _ _ _ _ => pts_nil) (fun _ _ _ _ _ => (pe_ix (ix_tupK K) (pv 2) pe_int (fun _ _ => rfl))) (fun _ _ _ _ _ => (pe_ix (ix_tupK K) (pv 2) pe_int (fun _ _ => rfl)))))
      (pss_cons (ps_if (pt_cmpR op_ne (pe_callB call_lenD (by rfl) (by assumption) (by decide +kernel) (pa_cons (pv 1) pa_nil)) (pe_callB (call_lenK K) (by rfl) (by assumption) (by decide +kernel) (pa_cons (pv 0) pa_nil)) (nomark _))
        (pss_one (ps_ret pe_bl))
        pss_nil)
      (pss_one (ps_ret (pe_callB (call_allK K) (by rfl) (by assumption) (by decide +kernel) (pa_cons (pe_lock (pe_lc (own := [("path", 3)]) (g := (gName 3)) (tt := tYes) rfl nd (pi_keys (pv 1)) (blkOk_by (N := N_are_entries) (sc := defScope s_are_entries) (by decide +kernel)) (fun _ _ _ _ _ => (pg_name (i := 3) nd rfl (Or.inl rfl))) (fun _ _ _ _ _ => pts_nil) (fun _ _ _ _ _ => (pe_cc c_stands hr (by omega) (by rfl) (pa_cons (pv 3) (pa_cons (pv 1) pa_nil)))))) pa_nil))))))), ?_⟩
    walk_at "rd"
    rename_i p9 hp9
    have e9 := same_new (o := HO.tup [V.ty "list", V.ty "tuple"]) hp9
    refine r_isiT2 true false upd_same (same_tyB e9 hT) (by decide +kernel) (by decide +kernel) ?_
    walk_at "rd"
    refine ⟨E, rfl, ⟨_, e9.seq hE⟩, ?_⟩
    intro D hD
    refine lc_it (walk_list (xs := es)) (fun i H' => Same (upd H p9 (.tup [V.ty "list", V.ty "tuple"])) H' ∧ H' D = some (.lst ((List.replicate i true).map V.bl))) ⟨same_new hD, by rw [upd_same]; rfl⟩ (fun i H' _ ⟨e, _⟩ => e.seq (e9.seq hE)) ?_ ?_
    · rintro i v Hc H' hi ⟨e, hb'⟩ ⟨rfl, hv⟩
      obtain ⟨q9, hq9, hent⟩ := paired_at hp hv
      obtain ⟨k1, k2⟩ := hok.path q9 (List.mem_of_getElem? hq9)
      walk_at "rd"
      refine ⟨rfl, ?_⟩
      unfold tYes
      dsimp only
      rw [if_pos rfl]
      walk_at "rd"
      refine ⟨v, q9, rfl, hent.same (e9.trans e), k1, k2, fun H2 e2 => ?_⟩
      refine ⟨_, e2 _ _ hb', Nat.lt_of_le_of_lt (by rw [List.length_map, List.length_replicate]; omega : _ ≤ 1000) (by decide), fun b o eo => by rw [upd_ne (ne_of_none eo hD)]; exact e2 _ _ (e _ _ eo), ?_⟩
      rw [upd_same, List.replicate_succ', List.map_append]
      rfl
    · rintro H3 ⟨e3, hb'⟩
      walk_at "rd"
      refine r_all (bs := List.replicate es.length true) (SqL.of hb') ?_
      rw [show (List.replicate es.length true).all id = true by simp]
      walk_at "rd"
      have E3 := e9.trans e3
      unfold tDc
      walk_at "rd"
      refine ⟨E, rfl, ⟨_, E3.seq hE⟩, ?_⟩
      intro D2 hD2
      refine dc_it (walk_list (xs := es)) (fun i H' => Same H3 H' ∧ ∃ ps, H' D2 = some (.dK ps) ∧ TabR (Thg.At K H3) ps (l.take i)) ⟨same_new hD2, [], upd_same, .nil⟩ (fun i H' _ ⟨e, _⟩ => e.seq (E3.seq hE)) ?_ ?_
      · rintro i v Hc H' hi ⟨e, ps, hps, htb⟩ ⟨rfl, hv⟩
        obtain ⟨⟨z, x⟩, hq9, en, u, rfl, hx, hux⟩ := paired_at hp hv
        have hx2 : SqT K H' en [.str z, u] := sqT_same (E3.trans e) hx
        walk_at "rd"
        refine ⟨rfl, ?_⟩
        unfold tYes
        dsimp only
        rw [if_pos rfl]
        walk_at "rd"
        refine ⟨ps, Sum.inr z, rfl, hps, ?_, fun b o eo => by rw [upd_ne (ne_of_none eo hD2)]; exact e _ _ eo, _, upd_same, ?_⟩
        · have := htb.len
          rw [List.length_take] at this
          exact Nat.lt_of_le_of_lt (by omega : _ ≤ 1000) (by decide)
        · rw [take_snoc hq9, ← put_new (nd_take hok.nd hq9)]
          exact htb.put (hux.same E3)
      · rintro H4 ⟨e4, ps, hps, htb⟩
        rw [el, List.take_length] at htb
        have hle : ps.length = l.length := htb.len
        walk_at "rd"
        refine ⟨D2, ps, rfl, hps, ?_⟩
        have hE4 := e4.seq (E3.seq hE)
        walk_at "rd"
        rw [hle, el, decide_eq_true rfl]
        walk_at "rd"
        unfold tLockE
        refine ⟨D2, .dK ps, hps, True.intro, fun od => ?_⟩
        have gl : upd H4 D2 (.frz od (.dK ps)) D2 = some (.frz od (.dK ps)) := upd_same
        have hTh : ThR K (upd H4 D2 (.frz od (.dK ps))) D2 l := ⟨ps, .inr ⟨od, gl⟩, htb.mono fun v x h => (h.same e4).upd (.inl hps)⟩
        unfold iKeys
        walk_at "rd"
        refine ⟨D2, od, rfl, .inl ⟨ps, gl, ?_⟩⟩
        intro D3 hD3
        refine lc_it walk_keys (fun i H' => Same (upd H4 D2 (.frz od (.dK ps))) H' ∧ H' D3 = some (.lst ((List.replicate i true).map V.bl))) ⟨same_new hD3, by rw [upd_same]; rfl⟩ (fun i H' _ ⟨e, _⟩ => e _ _ gl) ?_ ?_
        · rintro i v Hc H' hi ⟨e, hb'⟩ ⟨rfl, kk, v9, hv, rfl⟩
          obtain ⟨⟨z, x⟩, hq9, hkk, hvx⟩ := paired_at htb hv
          have hkk : kk = Sum.inr z := hkk
          subst hkk
          have hm := List.mem_of_getElem? hq9
          have hz9 := pathB_len (hok.path _ hm).1
          walk_at "rd"
          refine ⟨rfl, ?_⟩
          unfold tYes
          dsimp only
          rw [if_pos rfl]
          walk_at "rd"
          refine ⟨z, D2, l, x, rfl, hz9, hTh.same e, look_nd hok.nd hm, fun H5 e5 => ?_⟩
          rw [hok.st _ hm]
          refine ⟨_, e5 _ _ hb', Nat.lt_of_le_of_lt (by rw [List.length_map, List.length_replicate]; omega : _ ≤ 1000) (by decide), fun b o eo => by rw [upd_ne (ne_of_none eo hD3)]; exact e5 _ _ (e _ _ eo), ?_⟩
          rw [upd_same, List.replicate_succ', List.map_append]
          rfl
        · rintro H5 ⟨e5, hb'⟩
          refine ⟨e5 _ _ gl, ?_⟩
          walk_at "rd"
          have nD : D3 ≠ D2 := fun h => by rw [h, gl] at hD3; cases hD3
          refine r_all (bs := List.replicate ps.length true) (SqL.of (by rw [upd_ne nD]; exact hb')) ?_
          rw [show (List.replicate ps.length true).all id = true by simp]
          refine q _ fun b o eo => ?_
          have n2 : b ≠ D2 := ne_of_none (E3 _ _ eo) hD2
          rw [upd_ne n2]
          exact e5 _ _ (by rw [upd_ne n2]; exact e4 _ _ (E3 _ _ eo))
end
/-! ### methods that take self only -/
structure MethT (P : Program) (w : World) (K : PySem.W.Frag) (mg : Str → Option Value) (base : Heap) (k : Nat) (C : Addr) (m : Str) (sp : Sp) : Prop where
  ex : ∃ (f : Addr) (fd : FuncData), FnOk P w K mg base CX0 k f fd ["self"] sp ∧ Cls K C ∧ Meth K C m f ∧ Binds K fd ["self"] []
section
variable {X : Cx} {j k : Nat} {C : Addr} {m : Str} {sp : Sp} {o : Expr} {ta : TE} {apos pos : Pos}
theorem pe_mt0 {pl : Sem Bool} (c : MethT X.prog X.w X.K X.mg X.base k C m sp) (hr : Room j X.A) (hk : k ≤ j) (he : PE X o ta)
    (ht : eval (.Call (.Attribute o m apos) [] [] pos) X.env = (do
      let ov ← eval o X.env
      standAt apos.atName
      let (f, first) ← holding [ov] (getMethod ov m pl)
      callWith pos f first (backTo pos (starEach [] X.env)) (backToKw pos (keywordEach [] X.env))) := by rfl) : PE X (.Call (.Attribute o m apos) [] [] pos) (tMeth C m sp [] E0 ta tNil) := by
  obtain ⟨f, fd, F, hc, hm, hb⟩ := c.ex
  exact pe_meth0 he hc hm F (hr.mono hk) hb .nil pass0 ht
theorem r_meth {σ : L2.St} {H : Hp} {Q : VK} {dvs : List V} {E : XK} {t : TA} (h : ta σ H fun x H1 => ∃ a dx fs, x = .ref a ∧ H1 a = some (.ins C dx fs) ∧ fs.lookup m = none ∧ t σ H1 fun vs H2 => sp (x :: (vs ++ dvs)) H2 Q E) : tMeth C m sp dvs E ta t σ H Q := h
theorem r_disp {σ : L2.St} {H : Hp} {Q : VK} {trs : List (TE × TE)} (h : ∀ p, H p = none → tPairs trs σ (upd H p (.dK [])) fun ps H2 => H2 p = some (.dK []) ∧ ∃ kvs : List (Key × V), ps = kvs.map (fun kv => (kV kv.1, kv.2)) ∧ kvs.length ≤ 15 ∧ Q (.ref p) (upd H2 p (.dK (mergeK [] kvs)))) : tDisp trs σ H Q := h
end
structure CF (K : PySem.W.Frag) (C aM : Addr) (kind : Str) : Prop where
  cl : Cls K C
  ha : PySem.W.findIn K (.ref C) "__class__" = some (some (.builtin "object.__class__"))
  hn : PySem.W.specialIn K (.builtin "object.__class__") "__get__" = some (some (.builtin "getset_descriptor.__get__"))
  htk : PySem.W.takesIn K (.builtin "object.__class__") = some true
  hm : PySem.W.mroIn K C (.type "object") = some true
  kit : PySem.W.kitOne K (.ref C) (.ref aM) = some true
  con : ∃ u, Con K C "KIND" (.str kind) u
  n1 : NoAttr K C "name"
  n2 : NoAttr K C "mode"
  n3 : NoAttr K C "time"
theorem r_pcons {σ : L2.St} {tk tv : TE} {r : List (TE × TE)} {H : Hp} {Q : List (V × V) → Hp → Prop} (h : tk σ H fun x H1 => tv σ H1 fun y H2 => tPairs r σ H2 fun ps H3 => Q ((x, y) :: ps) H3) : tPairs ((tk, tv) :: r) σ H Q := h
theorem r_pnil {σ : L2.St} {H : Hp} {Q : List (V × V) → Hp → Prop} (h : Q [] H) : tPairs [] σ H Q := h
/-! ### what a member's class is -/
structure Kits (K : PySem.W.Frag) (c : Cs) : Prop where
  ff : PySem.W.kitOne K (.ref c.F) (.ref c.F) = some true
  fs : PySem.W.kitOne K (.ref c.F) (.ref c.S) = some false
  fy : PySem.W.kitOne K (.ref c.F) (.ref c.Y) = some false
  fl : PySem.W.kitOne K (.ref c.F) (.ref c.L) = some false
  sf : PySem.W.kitOne K (.ref c.S) (.ref c.F) = some false
  ss : PySem.W.kitOne K (.ref c.S) (.ref c.S) = some true
  sy : PySem.W.kitOne K (.ref c.S) (.ref c.Y) = some false
  sl : PySem.W.kitOne K (.ref c.S) (.ref c.L) = some false
  df : PySem.W.kitOne K (.ref c.D) (.ref c.F) = some false
  ds : PySem.W.kitOne K (.ref c.D) (.ref c.S) = some false
  dy : PySem.W.kitOne K (.ref c.D) (.ref c.Y) = some false
  dl : PySem.W.kitOne K (.ref c.D) (.ref c.L) = some false
  yf : PySem.W.kitOne K (.ref c.Y) (.ref c.F) = some false
  ys : PySem.W.kitOne K (.ref c.Y) (.ref c.S) = some false
  yy : PySem.W.kitOne K (.ref c.Y) (.ref c.Y) = some true
  lf : PySem.W.kitOne K (.ref c.L) (.ref c.F) = some false
  ls : PySem.W.kitOne K (.ref c.L) (.ref c.S) = some false
  ly : PySem.W.kitOne K (.ref c.L) (.ref c.Y) = some false
  ll : PySem.W.kitOne K (.ref c.L) (.ref c.L) = some true
/-- the classes of members, as the program reads them -/
structure MF (K : PySem.W.Frag) (c : Cs) (aM : Addr) : Prop where
  kt : Kits K c
  fF : CF K c.F aM "file"
  fS : CF K c.S aM "sparse"
  fD : CF K c.D aM "directory"
  fY : CF K c.Y aM "symlink"
  fL : CF K c.L aM "link"
  tF : NoAttr K c.F "data"
  tS : NoAttr K c.S "pieces"
  tZ : NoAttr K c.S "size"
  tY : NoAttr K c.Y "target"
  tL : NoAttr K c.L "target"
theorem CF.ty {K : PySem.W.Frag} {C aM a dx : Addr} {kind : Str} {fs : List (Str × V)} {H : Hp} (c : CF K C aM kind) (h1 : H a = some (.ins C dx fs)) : TyX K H (.ref a) (.ref C) := .base (.ins h1 c.cl c.ha c.hn c.htk c.hm)
def Mem.tgt : Mem → Str
  | .sym _ _ _ g => g
  | .lnk _ _ _ g => g
  | _ => ""
def Mem.nm : Mem → Str
  | .file n .. => n
  | .sparse n .. => n
  | .dir n .. => n
  | .sym n .. => n
  | .lnk n .. => n
theorem kit2 {K : PySem.W.Frag} {t a b : Value} {x y : Bool} (h1 : PySem.W.kitOne K t a = some x) (h2 : PySem.W.kitOne K t b = some y) : PySem.W.kitAny K t [a, b] = some (x || y) := by
  cases x <;> cases y <;> simp only [PySem.W.kitAny, h1, h2] <;> rfl
theorem kit2t {K : PySem.W.Frag} {t a b : Value} (h1 : PySem.W.kitOne K t a = some true) : PySem.W.kitAny K t [a, b] = some true := by simp only [PySem.W.kitAny, h1]
section
variable {P : Program} {w : World} {K : PySem.W.Frag} {mg : Str → Option Value} {base : Heap}
def spTarget (c : Cs) : Sp := fun vs H Q _ => ∃ (x : Addr) (m : Mem), vs = [.ref x] ∧ m.Ins c H x ∧ ∀ H', Same H H' → Q (.str m.tgt) H'
theorem r_isT {K : PySem.W.Frag} {x tp : Addr} {C a b : Addr} {H : Hp} {r : Bool} {Q : VK} (ty : TyX K H (.ref x) (.ref C)) (ht : H tp = some (.tup [.ref a, .ref b])) (hk : PySem.W.kitAny K (.ref C) [.ref a, .ref b] = some r) (q : Q (.bl r) H) : rIsiT K [.ref x, .ref tp] H Q :=
  ⟨.ref x, tp, _, .ref C, _, r, rfl, ht, .cons (.own a) (.cons (.own b) .nil), ty, hk, q⟩
theorem r_is1 {K : PySem.W.Frag} {x : Addr} {C a : Addr} {H : Hp} {r : Bool} {Q : VK} (ty : TyX K H (.ref x) (.ref C)) (hk : PySem.W.kitOne K (.ref C) (.ref a) = some r) (q : Q (.bl r) H) : rIsi K [.ref x, .ref a] H Q :=
  ⟨.ref x, .ref a, .ref C, .ref a, r, rfl, .own a, ty, hk, q⟩
theorem ok_target {f aM : Addr} {fd : FuncData} {k : Nat} {c : Cs} (F : Fun K "target_of" "target_of" s_target_of f fd) (m1 : mg "isinstance" = none) (M : MF K c aM) (m_Y : mg "Symlink" = some (.ref c.Y)) (m_L : mg "Link" = some (.ref c.L)) : FnOk P w K mg base CX0 (k + 2) f fd ["member"] (spTarget c) := by
  refine F.ok sc_target_of (fun vs H Q E h => ?_) (fun cdv A outer s H vs Q E hr h => ?_)
  · obtain ⟨x, m, rfl, _⟩ := h
    rfl
  · obtain ⟨x, m, rfl, hin, q⟩ := h
    have hu := hu_of hr
    have nd := sc_target_of.nd
    refine ⟨_, (pss_cons (ps_if (pt_val (pe_callB (call_isiK2 K) (by rfl) (by assumption) (by decide +kernel) (pa_cons (pv 0) (pa_cons (pe_tup (pa_cons (pe_glob (v := .ref c.Y) (by rfl) m_Y (by first | exact rfl | exact ⟨_, rfl⟩)) (pa_cons (pe_glob (v := .ref c.L) (by rfl) m_L (by first | exact rfl | exact ⟨_, rfl⟩)) pa_nil))) pa_nil))))
        (pss_one (ps_ret (pe_fld (pv 0) rfl)))
        pss_nil)
      (pss_one (ps_ret pe_str))), ?_⟩
    cases m with
    | file n b t ns =>
      obtain ⟨dx, hx⟩ := hin
      walk_at "rd"
      rename_i tp htp
      refine r_isT (M.fF.ty (upd_old htp hx)) upd_same (kit2 M.kt.fy M.kt.fl) ?_
      walk_at "rd"
      exact q _ (same_new htp)
    | sparse n b t z sp =>
      obtain ⟨dx, p, hx, hp⟩ := hin
      walk_at "rd"
      rename_i tp htp
      refine r_isT (M.fS.ty (upd_old htp hx)) upd_same (kit2 M.kt.sy M.kt.sl) ?_
      walk_at "rd"
      exact q _ (same_new htp)
    | dir n b t =>
      obtain ⟨dx, hx⟩ := hin
      walk_at "rd"
      rename_i tp htp
      refine r_isT (M.fD.ty (upd_old htp hx)) upd_same (kit2 M.kt.dy M.kt.dl) ?_
      walk_at "rd"
      exact q _ (same_new htp)
    | sym n b t g =>
      obtain ⟨dx, hx⟩ := hin
      walk_at "rd"
      rename_i tp htp
      have hx1 := upd_old (o := .tup [V.ref c.Y, V.ref c.L]) htp hx
      refine r_isT (M.fY.ty hx1) upd_same (kit2t M.kt.yy) ?_
      walk_at "rd"
      refine r_fldE hx1 M.fY.cl M.tY rfl ?_
      walk_at "rd"
      exact q _ (same_new htp)
    | lnk n b t g =>
      obtain ⟨dx, hx⟩ := hin
      walk_at "rd"
      rename_i tp htp
      have hx1 := upd_old (o := .tup [V.ref c.Y, V.ref c.L]) htp hx
      refine r_isT (r := true) (M.fL.ty hx1) upd_same (kit2 M.kt.ly M.kt.ll) ?_
      walk_at "rd"
      refine r_fldE hx1 M.fL.cl M.tL rfl ?_
      walk_at "rd"
      exact q _ (same_new htp)
end
/-! ### methods with arguments; a star and keywords -/
structure MetA (P : Program) (w : World) (K : PySem.W.Frag) (mg : Str → Option Value) (base : Heap) (k : Nat) (C : Addr) (m : Str) (ps : List Str) (sp : Sp) : Prop where
  ex : ∃ (f : Addr) (fd : FuncData), FnOk P w K mg base CX0 k f fd ps sp ∧ Cls K C ∧ Meth K C m f ∧ Binds K fd ps []
section
variable {X : Cx} {j k : Nat} {C : Addr} {m : Str} {ps : List Str} {sp : Sp} {o e : Expr} {es : List Expr} {ta : TE} {t : TA} {apos pos : Pos}
theorem pe_mtA {pl : Sem Bool} (c : MetA X.prog X.w X.K X.mg X.base k C m ps sp) (hr : Room j X.A) (hk : k ≤ j) (he : PE X o ta) (ha : PA X (e :: es) t)
    (hst : starEach (e :: es) X.env = (false, eval e X.env) :: starEach es X.env := by rfl) (hpl : (backTo pos (starEach es X.env)).any (·.1) = false := by rfl)
    (ht : eval (.Call (.Attribute o m apos) (e :: es) [] pos) X.env = (do
      let ov ← eval o X.env
      standAt apos.atName
      let (f, first) ← holding [ov] (getMethod ov m pl)
      callWith pos f first (backTo pos (starEach (e :: es) X.env)) (backToKw pos (keywordEach [] X.env))) := by rfl) :
    PE X (.Call (.Attribute o m apos) (e :: es) [] pos) (tMeth C m sp [] E0 ta t) := by
  obtain ⟨f, fd, F, hc, hm, hb⟩ := c.ex
  exact pe_meth he hc hm F (hr.mono hk) hb .nil pass0 ha hst hpl ht
theorem pe_mtA0 {pl : Sem Bool} (c : MetA X.prog X.w X.K X.mg X.base k C m ps sp) (hr : Room j X.A) (hk : k ≤ j) (he : PE X o ta)
    (ht : eval (.Call (.Attribute o m apos) [] [] pos) X.env = (do
      let ov ← eval o X.env
      standAt apos.atName
      let (f, first) ← holding [ov] (getMethod ov m pl)
      callWith pos f first (backTo pos (starEach [] X.env)) (backToKw pos (keywordEach [] X.env))) := by rfl) : PE X (.Call (.Attribute o m apos) [] [] pos) (tMeth C m sp [] E0 ta tNil) := by
  obtain ⟨f, fd, F, hc, hm, hb⟩ := c.ex
  exact pe_meth0 he hc hm F (hr.mono hk) hb .nil pass0 ht
end
def ps_fldaugN {X : Cx} (K : PySem.W.Frag) {o value : Expr} {f : Str} {pos tpos : Pos} {ta tv : TE} {op : Operator} {rd : V → V → Hp → VK → Prop} (ha : PE X o ta) (hv : PE X value tv) (hop : InOp X op rd) (h : X.K = K := by rfl) : PS X (.AugAssign (.Attribute o f tpos) op value pos) (sFldAug K ta tv rd f) := h ▸ ps_fldaug ha hv hop
/-! ### the pieces cut out of the stored bytes -/
/-! ### own objects: rules -/
def rLenO (C : Addr) (sp : Sp) : List V → Hp → VK → Prop := fun xs H Q => ∃ a dx fs, xs = [.ref a] ∧ H a = some (.ins C dx fs) ∧ ∀ E, sp [.ref a] H (fun v H' => ∃ n : Nat, v = .int (n : Int) ∧ n < 1000000 ∧ Q (.int (n : Int)) H') E
theorem call_lenO {X : Cx} {j k : Nat} {C : Addr} {sp : Sp} (c : MethT X.prog X.w X.K X.mg X.base k C "__len__" sp) (hr : Room j X.A) (hk : k + 1 ≤ j) : CallR X (.builtin "len") (rLenO C sp) := by
  obtain ⟨f, fd, F, hc, hm, hb⟩ := c.ex
  intro pins s σ H xs us Q I r h
  obtain ⟨a, dx, fs, rfl, ha, q⟩ := h
  obtain ⟨u, rfl, rx⟩ := vals1 r
  have hu : u = Value.ref a := rx
  subst hu
  obtain ⟨mA, O, _⟩ := ins_get I.hok ha
  obtain ⟨od, J, _⟩ := O.look
  obtain ⟨m, fr⟩ := I.fr
  have room : Room k X.A.in1 := (hr.mono hk).in1
  refine PySem.W.len_K fr I.ok.mod.kin J hm.at_ hm.fn ?_
  refine wpAny_call (codeAny_mono (F.run X.A.in1 X.stack s H ⟨[.ref a], []⟩ [.ref a] [.ref a] _ (fun _ _ _ => False) room I.env0.in1 (hb s [.ref a] I.kIn rfl) (.cons rfl .nil) (q _)) ?_)
  intro r s' hq
  cases r with
  | error e => exact False.elim hq
  | ok fl =>
    cases fl with
    | ret v =>
      obtain ⟨y, H', J', rel, n, rfl, hn, q'⟩ := I.after hq
      obtain ⟨t, rfl⟩ := rel
      exact ⟨⟨by omega, by omega⟩, .int n, H', J'.tok _, ⟨_, rfl⟩, q'⟩
    | next => exact False.elim hq
    | brk => exact False.elim hq
    | cont => exact False.elim hq
structure Mk0T (P : Program) (w : World) (K : PySem.W.Frag) (mg : Str → Option Value) (base : Heap) (k : Nat) (x : Str) (C : Addr) (sp : Sp) : Prop where
  ex : ∃ (f : Addr) (fd : FuncData), Mk K C f ∧ FnOk P w K mg base CX0 k f fd ["self"] sp ∧ Binds K fd ["self"] [] ∧ mg x = some (.ref C)
theorem pe_mk0 {X : Cx} {j k : Nat} {C : Addr} {x : Str} {sp : Sp} {p pos : Pos} (c : Mk0T X.prog X.w X.K X.mg X.base k x C sp) (hr : Room j X.A) (hk : k + 1 ≤ j) (hg : Gl X x) (hdb : (x == ("__debug__" : Str)) = false := by decide) :
    PE X (.Call (.Name x p) [] [] pos) (tMake C sp [] E0 tNil) := by
  obtain ⟨f, fd, M, F, hb, hm⟩ := c.ex
  exact pe_make0 M F (hr.mono hk) hg hm hb .nil pass0 hdb
theorem r_make {C : Addr} {sp : Sp} {dvs : List V} {E : XK} {t : TA} {σ : L2.St} {H : Hp} {Q : VK} (h : t σ H fun vs H1 => ∀ x dx, H1 x = none → H1 dx = none → dx ≠ x → sp (.ref x :: (vs ++ dvs)) (upd (upd H1 dx (.own x)) x (.ins C dx [])) (fun v H2 => v = .non ∧ Q (.ref x) H2) E) : tMake C sp dvs E t σ H Q := h
/-! ### [bytes, ..] != [bytes, ..], of equal ones -/
def tMakeV (C : Addr) (sp : Sp) (te : TE) : TE := fun σ H Q => te σ H fun v H1 => v = .ref C ∧ tMake C sp [] E0 tNil σ H1 Q
theorem pe_mkV {X : Cx} {j k : Nat} {C : Addr} {x y : Str} {sp : Sp} {te : TE} {p pos : Pos} (c : Mk0T X.prog X.w X.K X.mg X.base k y C sp) (hr : Room j X.A) (hk : k + 1 ≤ j) (he : PE X (.Name x p) te) :
    PE X (.Call (.Name x p) [] [] pos) (tMakeV C sp te) := by
  obtain ⟨f, fd, M, F, hb, hm⟩ := c.ex
  constructor
  intro pins s σ H Q I h
  refine wpAny_Call_Name_kw (thn (he.run pins s σ H _ I h) ?_)
  rintro u s1 ⟨v, H1, I1, r1, rfl, q1⟩
  obtain rfl : u = Value.ref C := r1
  refine PySem.W.callWith_K0 I1.kIn M.kp ?_
  exact run_make M F (hr.mono hk) hb .nil pass0 I1 .nil q1
/-- a class method, called with one argument -/
structure CMetT (P : Program) (w : World) (K : PySem.W.Frag) (mg : Str → Option Value) (base : Heap) (k : Nat) (C : Addr) (m : Str) (ps : List Str) (sp : Sp) : Prop where
  ex : ∃ (mc : Value) (p g : Addr) (fd : FuncData), ClX.CRead K C mc ∧ ClX.CMet K C mc m p g ∧ FnOk P w K mg base CX0 k g fd ps sp ∧ Binds K fd ps []
theorem fnR_of {P : Program} {w : World} {K : PySem.W.Frag} {mg : Str → Option Value} {base : Heap} {k : Nat} {f : Addr} {fd : FuncData} {ps : List Str} {sp : Sp} (F : FnOk P w K mg base CX0 k f fd ps sp) (hb : Binds K fd ps []) : FnR P w K mg base CX0 k f sp := by
  intro A outer s H us vs Q E hr e0 rv h
  have hl : us.length = ps.length := by rw [← rv.length]; exact F.len _ _ _ _ h
  have b := hb s us (fun a o ho => (e0.bs a o (e0.mod.kin a o ho)).1) (by rw [List.append_nil]; exact hl)
  rw [List.append_nil] at b
  exact F.run A outer s H ⟨us, []⟩ us vs Q E hr e0 b rv h
theorem pe_cmetT {X : Cx} {j k : Nat} {C : Addr} {m : Str} {ps : List Str} {sp : Sp} {o e : Expr} {es : List Expr} {ta : TE} {t : TA} {apos pos : Pos} {pl : Sem Bool} (c : CMetT X.prog X.w X.K X.mg X.base k C m ps sp) (hr : Room j X.A) (hk : k ≤ j) (he : PE X o ta) (ha : PA X (e :: es) t)
    (hst : starEach (e :: es) X.env = (false, eval e X.env) :: starEach es X.env := by rfl) (hpl : (backTo pos (starEach es X.env)).any (·.1) = false := by rfl)
    (ht : eval (.Call (.Attribute o m apos) (e :: es) [] pos) X.env = (do
      let ov ← eval o X.env
      standAt apos.atName
      let (f, first) ← holding [ov] (getMethod ov m pl)
      callWith pos f first (backTo pos (starEach (e :: es) X.env)) (backToKw pos (keywordEach [] X.env))) := by rfl) :
    PE X (.Call (.Attribute o m apos) (e :: es) [] pos) (ClX.tCMeth C sp E0 ta t) := by
  obtain ⟨mc, p, g, fd, r, cm, F, hb⟩ := c.ex
  exact ClX.pe_cmeth he r cm (fnR_of F hb) (hr.mono hk) pass0 ha hst hpl ht
abbrev s_House___init__ : Stmt := inClass (topS 48) 0
abbrev N_House___init__ : List Str := ["self"]
theorem sc_House___init__ : FnScope N_House___init__ ["self"] (defScope s_House___init__) := ⟨rfl, rfl, rfl, by decide +kernel, rfl, by decide +kernel, by decide +kernel⟩
abbrev s_House___len__ : Stmt := inClass (topS 48) 2
abbrev N_House___len__ : List Str := ["self"]
theorem sc_House___len__ : FnScope N_House___len__ ["self"] (defScope s_House___len__) := ⟨rfl, rfl, rfl, by decide +kernel, rfl, by decide +kernel, by decide +kernel⟩
/-! ### houses -/
structure HsC (K : PySem.W.Frag) (C : Addr) : Prop where
  cl : Cls K C
  rows : NoAttr K C "rows"
  things : NoAttr K C "things"
  firsts : NoAttr K C "firsts"
def hsF (R T F : Addr) : List (Str × V) := putF "firsts" (.ref F) (putF "things" (.ref T) (putF "rows" (.ref R) []))
structure Hs where
  rows : List (Str × Thg)
  things : List (Str × Thg)
  firsts : List (Str × Str)
/-- the house at x -/
structure HsIn (K : PySem.W.Frag) (C : Addr) (H : Hp) (x dx R T F : Addr) (vs : List V) (ps qs : List (Key × V)) (h : Hs) : Prop where
  ob : H x = some (.ins C dx (hsF R T F))
  r : H R = some (.tup vs)
  pr : Paired (EntAt K H) vs h.rows
  t : H T = some (.dK ps)
  pt : TabR (Thg.At K H) ps h.things
  f : H F = some (.dK qs)
  pf : TabR (fun v z => v = .str z) qs h.firsts
  ne : T ≠ F
def HsAt (K : PySem.W.Frag) (C : Addr) (H : Hp) (x : Addr) (h : Hs) : Prop := ∃ dx R T F vs ps qs, HsIn K C H x dx R T F vs ps qs h
theorem HsIn.same {K : PySem.W.Frag} {C : Addr} {H H' : Hp} {x dx R T F : Addr} {vs : List V} {ps qs : List (Key × V)} {h : Hs} (g : HsIn K C H x dx R T F vs ps qs h) (e : Same H H') : HsIn K C H' x dx R T F vs ps qs h :=
  ⟨e _ _ g.ob, e _ _ g.r, Paired.mapP g.pr fun _ _ y => y.same e, e _ _ g.t, g.pt.mono fun _ _ y => y.same e, e _ _ g.f, g.pf, g.ne⟩
theorem HsAt.same {K : PySem.W.Frag} {C : Addr} {H H' : Hp} {x : Addr} {h : Hs} (e : Same H H') (g : HsAt K C H x h) : HsAt K C H' x h := by
  obtain ⟨dx, R, T, F, vs, ps, qs, g⟩ := g
  exact ⟨dx, R, T, F, vs, ps, qs, g.same e⟩
/-- the house at x with its two dicts -/
def HsTF (K : PySem.W.Frag) (C : Addr) (H : Hp) (x T F : Addr) (h : Hs) : Prop := ∃ dx R vs ps qs, HsIn K C H x dx R T F vs ps qs h
theorem HsTF.at {K : PySem.W.Frag} {C : Addr} {H : Hp} {x T F : Addr} {h : Hs} (g : HsTF K C H x T F h) : HsAt K C H x h := by
  obtain ⟨dx, R, vs, ps, qs, g⟩ := g
  exact ⟨dx, R, T, F, vs, ps, qs, g⟩
/-- a house whose dicts are new since H0 -/
def HsNw (K : PySem.W.Frag) (C : Addr) (H0 H : Hp) (x : Addr) (h : Hs) : Prop := ∃ T F, H0 T = none ∧ H0 F = none ∧ HsTF K C H x T F h
theorem HsNw.at {K : PySem.W.Frag} {C : Addr} {H0 H : Hp} {x : Addr} {h : Hs} (g : HsNw K C H0 H x h) : HsAt K C H x h := by
  obtain ⟨T, F, _, _, g⟩ := g
  exact g.at
section
variable {P : Program} {w : World} {K : PySem.W.Frag} {mg : Str → Option Value} {base : Heap}
def spHInit (C : Addr) : Sp := fun vs H Q _ => ∃ (x dx : Addr), vs = [.ref x] ∧ H x = some (.ins C dx []) ∧
  ∀ R T F H', H R = none → H T = none → H F = none → T ≠ F → Frame x H H' → H' x = some (.ins C dx (hsF R T F)) → H' R = some (.tup []) → H' T = some (.dK []) → H' F = some (.dK []) → Q .non H'
theorem ok_hinit {f C : Addr} {fd : FuncData} {k : Nat} (F : Fun K "__init__" "House.__init__" s_House___init__ f fd) (hc : HsC K C) : FnOk P w K mg base CX0 (k + 2) f fd ["self"] (spHInit C) := by
  refine F.ok sc_House___init__ (fun vs H Q E9 h => ?_) (fun cdv A outer s H vs Q E9 hr h => ?_)
  · obtain ⟨x, dx, rfl, _⟩ := h
    rfl
  · obtain ⟨x, dx, rfl, hx, q⟩ := h
    have hu := hu_of hr
    have nd := sc_House___init__.nd
    have hcl := hc.cl
    have a1 := hc.rows
    have a2 := hc.things
    have a3 := hc.firsts
    refine ⟨_, (pss_cons (ps_fld (pv 0) (pe_tup pa_nil) rfl)
      (pss_cons (ps_fld (pv 0) pe_dnewK rfl)
      (pss_one (ps_fld (pv 0) pe_dnewK rfl)))), ?_⟩
    walk_at "rd"
    rename_i R hR T hT F hF
    have xR : x ≠ R := ne_of_none hx hR
    have g1 : upd H R (.tup []) x = some (.ins C dx []) := upd_old hR hx
    have k1 : ∀ b o, b ≠ x → H b = some o → upd (upd H R (.tup [])) x (.ins C dx (putF (Str.ofString "rows") (V.ref R) [])) b = some o := fun b o nb e => by rw [upd_ne nb]; exact upd_old hR e
    have xT : x ≠ T := ne_of_none upd_same hT
    have RT : R ≠ T := ne_of_none (by rw [upd_ne xR.symm]; exact upd_same : upd (upd H R (.tup [])) x (.ins C dx (putF (Str.ofString "rows") (V.ref R) [])) R = some (.tup [])) hT
    have hTn : H T = none := by
      rw [upd_ne xT.symm, upd_ne RT.symm] at hT
      exact hT
    have xF : x ≠ F := ne_of_none upd_same hF
    have hF2 := hF
    rw [upd_ne xF.symm] at hF2
    have TF : T ≠ F := ne_of_none upd_same hF2
    rw [upd_ne TF.symm, upd_ne xF.symm] at hF2
    have RF : R ≠ F := ne_of_none upd_same hF2
    rw [upd_ne RF.symm] at hF2
    refine q R T F _ hR hTn hF2 TF (fun b o nb e => ?_) upd_same ?_ ?_ ?_
    · have e1 : b ≠ R := ne_of_none e hR
      have e2 : b ≠ T := ne_of_none e hTn
      have e3 : b ≠ F := ne_of_none e hF2
      rw [upd_ne nb, upd_ne e3, upd_ne nb, upd_ne e2, upd_ne nb, upd_ne e1]
      exact e
    · rw [upd_ne xR.symm, upd_ne RF, upd_ne xR.symm, upd_ne RT, upd_ne xR.symm]
      exact upd_same
    · rw [upd_ne xT.symm, upd_ne TF, upd_ne xT.symm]
      exact upd_same
    · rw [upd_ne xF.symm]
      exact upd_same
def spHLen (C : Addr) (K : PySem.W.Frag) : Sp := fun vs H Q _ => ∃ (x : Addr) (h : Hs), vs = [.ref x] ∧ HsAt K C H x h ∧ Q (.int (h.rows.length : Nat)) H
theorem ok_hlen {f C : Addr} {fd : FuncData} {k : Nat} (F : Fun K "__len__" "House.__len__" s_House___len__ f fd) (hc : HsC K C) (m1 : mg "len" = none) : FnOk P w K mg base CX0 (k + 2) f fd ["self"] (spHLen C K) := by
  refine F.ok sc_House___len__ (fun vs H Q E9 h => ?_) (fun cdv A outer s H vs Q E9 hr h => ?_)
  · obtain ⟨x, h, rfl, _⟩ := h
    rfl
  · obtain ⟨x, h, rfl, ⟨dx, R, T, F, vs, ps, qs, g⟩, q⟩ := h
    have hu := hu_of hr
    have nd := sc_House___len__.nd
    have hcl := hc.cl
    have a1 := hc.rows
    refine ⟨_, (pss_one (ps_ret (pe_callB (call_lenK K) (by rfl) (by assumption) (by decide +kernel) (pa_cons (pe_fldN K (pv 0)) pa_nil)))), ?_⟩
    walk_at "rd"
    refine r_fldE g.ob hc.cl hc.rows rfl ?_
    walk_at "rd"
    refine ⟨R, vs, rfl, .inr (SqT.of g.r), ?_⟩
    rw [Paired.length g.pr]
    exact q
end
abbrev s_filled : Stmt := topS 49
abbrev N_filled : List Str := ["house", "things", "marks", "rows", "leasts", "path", "row", "first"]
theorem sc_filled : FnScope N_filled ["house", "things", "marks"] (defScope s_filled) := ⟨rfl, rfl, rfl, by decide +kernel, rfl, by decide +kernel, by decide +kernel⟩
/-! ### a house is filled -/
/-- marks, to be read -/
def MkR (H : Hp) (M : Addr) (ms : List (Str × Key)) : Prop := ∃ ps, Rd H M (.dK ps) ∧ TabR (fun v k => v = kV k) ps ms
/-- the first path with the mark -/
def firstM (ms : List (Str × Key)) (ys : List Str) (k : Key) : Option Str := ys.find? fun p => decide (look ms p = some k)
def firstOf (ms : List (Str × Key)) (ys : List Str) (p : Str) : Str := ((look ms p).bind (firstM ms ys)).getD p
def firstsP (ms : List (Str × Key)) (ys : List Str) : List Str → List (Str × Str)
  | [] => []
  | p :: r => (if (look ms p).isSome = true then [(p, firstOf ms ys p)] else []) ++ firstsP ms ys r
def thingP (l : List (Str × Thg)) (p : Str) : Thg := (look l p).getD (.lnk "")
def rowP (l : List (Str × Thg)) (ms : List (Str × Key)) (ys : List Str) (p : Str) : Thg := if firstOf ms ys p = p then thingP l p else .lnk (firstOf ms ys p)
def hsOf (l : List (Str × Thg)) (ms : List (Str × Key)) (ys : List Str) : Hs := ⟨ys.map fun p => (p, rowP l ms ys p), ys.map fun p => (p, thingP l p), firstsP ms ys ys⟩
theorem hsF_put {R R' T F : Addr} : putF "rows" (.ref R') (hsF R T F) = hsF R' T F := rfl
theorem firstM_app {ms : List (Str × Key)} {ys zs : List Str} {k : Key} : firstM ms (ys ++ zs) k = (firstM ms ys k).or (firstM ms zs k) := List.find?_append
theorem firstM_one {ms : List (Str × Key)} {z : Str} {k : Key} : firstM ms [z] k = if look ms z = some k then some z else none := by
  unfold firstM
  rw [List.find?_cons]
  by_cases h : look ms z = some k
  · rw [if_pos h, decide_eq_true h]
  · rw [if_neg h, decide_eq_false h]
    rfl
theorem firstM_pre {ms : List (Str × Key)} {ys : List Str} {k : Key} {f : Str} {j : Nat} (h : firstM ms (ys.take j) k = some f) : firstM ms ys k = some f := by
  rw [← List.take_append_drop j ys, firstM_app, h]
  rfl
theorem firstsP_app {ms : List (Str × Key)} {ys : List Str} : ∀ {a b : List Str}, firstsP ms ys (a ++ b) = firstsP ms ys a ++ firstsP ms ys b
  | [], b => rfl
  | p :: a, b => by
    rw [List.cons_append]
    show _ ++ firstsP ms ys (a ++ b) = (_ ++ firstsP ms ys a) ++ _
    rw [firstsP_app, List.append_assoc]
theorem firstsP_one {ms : List (Str × Key)} {ys : List Str} {z : Str} : firstsP ms ys [z] = if (look ms z).isSome = true then [(z, firstOf ms ys z)] else [] := by
  show _ ++ [] = _
  rw [List.append_nil]
theorem firstsP_keys {ms : List (Str × Key)} {ys : List Str} : ∀ {a : List Str} {z : Str}, z ∈ (firstsP ms ys a).map (·.1) → z ∈ a
  | p :: a, z, h => by
    have h : z ∈ ((if (look ms p).isSome = true then [(p, firstOf ms ys p)] else []) ++ firstsP ms ys a).map (·.1) := h
    rw [List.map_append, List.mem_append] at h
    rcases h with h | h
    · split at h
      · rw [List.map_cons, List.map_nil, List.mem_singleton] at h
        rw [h]; exact List.mem_cons_self
      · cases h
    · exact List.mem_cons_of_mem _ (firstsP_keys h)
theorem firstsP_len {ms : List (Str × Key)} {ys : List Str} : ∀ {a : List Str}, (firstsP ms ys a).length ≤ a.length
  | [] => Nat.le_refl _
  | p :: a => by
    show ((if (look ms p).isSome = true then [(p, firstOf ms ys p)] else []) ++ firstsP ms ys a).length ≤ _
    rw [List.length_append, List.length_cons]
    have := firstsP_len (ms := ms) (ys := ys) (a := a)
    split
    · rw [List.length_singleton]; omega
    · rw [List.length_nil]; omega
/-- tuples stay -/
def TK (H H' : Hp) : Prop := (∀ b xs, H b = some (.tup xs) → H' b = some (.tup xs)) ∧ ∀ b o xs, H b = some (.frz o (.tup xs)) → H' b = some (.frz o (.tup xs))
theorem TK.refl (H : Hp) : TK H H := ⟨fun _ _ h => h, fun _ _ _ h => h⟩
theorem TK.trans {H H1 H2 : Hp} (a : TK H H1) (b : TK H1 H2) : TK H H2 := ⟨fun x xs h => b.1 x xs (a.1 x xs h), fun x o xs h => b.2 x o xs (a.2 x o xs h)⟩
theorem Same.tk {H H' : Hp} (e : Same H H') : TK H H' := ⟨fun _ _ h => e _ _ h, fun _ _ _ h => e _ _ h⟩
theorem tk_new {H : Hp} {b : Addr} {o : HO} (h : H b = none) : TK H (upd H b o) := Same.tk (same_new h)
theorem tk_dK {H : Hp} {b : Addr} {o : HO} {ps : List (Key × V)} (h : H b = some (.dK ps)) : TK H (upd H b o) :=
  ⟨fun a xs g => by rw [upd_ne (fun e => by rw [e, h] at g; cases g)]; exact g, fun a o1 xs g => by rw [upd_ne (fun e => by rw [e, h] at g; cases g)]; exact g⟩
theorem tk_lst {H : Hp} {b : Addr} {o : HO} {ps : List V} (h : H b = some (.lst ps)) : TK H (upd H b o) :=
  ⟨fun a xs g => by rw [upd_ne (fun e => by rw [e, h] at g; cases g)]; exact g, fun a o1 xs g => by rw [upd_ne (fun e => by rw [e, h] at g; cases g)]; exact g⟩
theorem sqT_tk {K : PySem.W.Frag} {H H' : Hp} {t : Addr} {xs : List V} (e : TK H H') (h : SqT K H t xs) : SqT K H' t xs := by
  rcases h with (h | ⟨o, h⟩) | h
  · exact .inl (.inl (e.1 _ _ h))
  · exact .inl (.inr ⟨o, e.2 _ _ _ h⟩)
  · exact .inr h
theorem Thg.At.tk {K : PySem.W.Frag} {H H' : Hp} {v : V} {x : Thg} (e : TK H H') (h : Thg.At K H v x) : Thg.At K H' v x := by
  obtain ⟨t, h1, h2⟩ := h
  exact ⟨t, h1, sqT_tk e h2⟩
theorem EntAt.tk {K : PySem.W.Frag} {H H' : Hp} {v : V} {q : Str × Thg} (s : TK H H') (h : EntAt K H v q) : EntAt K H' v q := by
  obtain ⟨e, u, h1, h2, h3⟩ := h
  exact ⟨e, u, h1, sqT_tk s h2, h3.tk s⟩
/-- where the loop stands -/
structure FilI (K : PySem.W.Frag) (H0 H : Hp) (L Ls T F : Addr) (l : List (Str × Thg)) (ms : List (Str × Key)) (ys : List Str) (i : Nat) : Prop where
  fr : ∀ b o, b ≠ T → b ≠ F → b ≠ L → b ≠ Ls → H0 b = some o → H b = some o
  tk : TK H0 H
  rows : ∃ vs, H L = some (.lst vs) ∧ Paired (EntAt K H) vs ((ys.take i).map fun p => (p, rowP l ms ys p))
  lst : ∃ ps, H Ls = some (.dK ps) ∧ ps.length ≤ i ∧ ∀ k, valV ps k = (firstM ms (ys.take i) k).map V.str
  th : ∃ ps, H T = some (.dK ps) ∧ TabR (Thg.At K H) ps ((ys.take i).map fun p => (p, thingP l p))
  fi : ∃ ps, H F = some (.dK ps) ∧ TabR (fun v z => v = .str z) ps (firstsP ms ys (ys.take i))
theorem put_keys_new {α : Type} {l : List (Str × α)} {z : Str} {x : α} (h : z ∉ l.map (·.1)) : putA l z x = l ++ [(z, x)] := put_new (look_none h)
theorem FilI.step {K : PySem.W.Frag} {H0 H' H2 : Hp} {L Ls T F E9 : Addr} {l : List (Str × Thg)} {ms : List (Str × Key)} {ys : List Str} {i : Nat} {z : Str} {v rowv : V} {vs : List V} {ps ls qs : List (Key × V)}
    (hz : ys[i]? = some z) (hzt : z ∉ ys.take i) (fr2 : ∀ b o, b ≠ T → b ≠ F → b ≠ L → b ≠ Ls → H0 b = some o → H2 b = some o) (tk0 : TK H0 H') (tk2 : TK H' H2)
    (gL : H2 L = some (.lst vs)) (pL : Paired (EntAt K H') vs ((ys.take i).map fun p => (p, rowP l ms ys p)))
    (gLs : H2 Ls = some (.dK ls)) (lls : ls.length ≤ i + 1) (pLs : ∀ k, valV ls k = (firstM ms (ys.take (i + 1)) k).map V.str)
    (gT : H2 T = some (.dK (putK ps (Sum.inr z) v))) (pT : TabR (Thg.At K H') ps ((ys.take i).map fun p => (p, thingP l p))) (hv : Thg.At K H' v (thingP l z))
    (gF : H2 F = some (.dK qs)) (pF : TabR (fun v z => v = .str z) qs (firstsP ms ys (ys.take (i + 1))))
    (hrow : Thg.At K H2 rowv (rowP l ms ys z)) (hE : H2 E9 = none) : FilI K H0 (upd (upd H2 E9 (.tup [.str z, rowv])) L (.lst (vs ++ [.ref E9]))) L Ls T F l ms ys (i + 1) := by
  have e9 := same_new (o := HO.tup [V.str z, rowv]) hE
  have nLE : L ≠ E9 := ne_of_none gL hE
  have nLLs : Ls ≠ L := fun e => by rw [e, gL] at gLs; cases gLs
  have nTL : T ≠ L := fun e => by rw [e, gL] at gT; cases gT
  have nFL : F ≠ L := fun e => by rw [e, gL] at gF; cases gF
  have tk3 : TK H2 (upd (upd H2 E9 (.tup [.str z, rowv])) L (.lst (vs ++ [.ref E9]))) := (tk_new hE).trans (tk_lst (e9 _ _ gL))
  have tk4 := tk2.trans tk3
  refine ⟨fun b o n1 n2 n3 n4 h => ?_, tk0.trans tk4, ⟨_, upd_same, ?_⟩, ⟨ls, ?_, lls, pLs⟩, ⟨putK ps (Sum.inr z) v, ?_, ?_⟩, ⟨qs, ?_, pF⟩⟩
  · rw [upd_ne n3]
    exact e9 _ _ (fr2 b o n1 n2 n3 n4 h)
  · rw [take_snoc hz, List.map_append]
    refine paired_snoc (Paired.mapP pL fun _ _ y => y.tk tk4) ⟨E9, rowv, rfl, SqT.of ?_, hrow.tk tk3⟩
    rw [upd_ne nLE.symm]
    exact upd_same
  · rw [upd_ne nLLs]
    exact e9 _ _ gLs
  · rw [upd_ne nTL]
    exact e9 _ _ gT
  · rw [take_snoc hz, List.map_append]
    have hk : z ∉ ((ys.take i).map fun p => (p, thingP l p)).map (·.1) := by
      rw [List.map_map]
      intro hm
      obtain ⟨a, ha, e⟩ := List.mem_map.mp hm
      exact hzt (e ▸ ha)
    rw [show ((ys.take i).map fun p => (p, thingP l p)) ++ [z].map (fun p => (p, thingP l p)) = putA ((ys.take i).map fun p => (p, thingP l p)) z (thingP l z) from (put_keys_new hk).symm]
    exact (pT.mono fun _ _ y => y.tk tk4).put (hv.tk tk4)
  · rw [upd_ne nFL]
    exact e9 _ _ gF
def fB (K : PySem.W.Frag) : TS := tDrop (tBM K "list" rAppend (tVar 3) (tCons (tTup (tCons (tVar 5) (tCons (tVar 6) tNil))) tNil))
def fA (K : PySem.W.Frag) : TS := tSeq (sDPut (tFld K (tVar 0) (Str.ofString "firsts")) (tVar 5) (tVar 7)) (tIfS (tTest (tOp rNe (tVar 7) (tVar 5))) (tAsg (tTup (tCons (tC (V.str (Str.ofString "link"))) (tCons (tVar 7) tNil))) (gName 6)) tNext)
section
variable {K : PySem.W.Frag} {D : Ends} {H : Hp} {x C dx R T F L Ls D0 M : Addr} {v5 v6 v7 : Option V}
theorem ok_fB {z : Str} {row : V} {vs : List V} (hL : H L = some (.lst vs)) (hz : vs.length ≤ 1000) (k : ∀ E9, H E9 = none → D.nx [some (.ref x), some (.ref D0), some (.ref M), some (.ref L), some (.ref Ls), some (.str z), some row, v7] (upd (upd H E9 (.tup [.str z, row])) L (.lst (vs ++ [.ref E9])))) :
    fB K D [some (.ref x), some (.ref D0), some (.ref M), some (.ref L), some (.ref Ls), some (.str z), some row, v7] H := by
  unfold fB
  walk_at "rd"
  rename_i E9 hE9
  have hL2 := (same_new (o := HO.tup [V.str z, row]) hE9) _ _ hL
  exact k E9 hE9
theorem ok_fA {z f : Str} {row : V} {qs : List (Key × V)} (hc : HsC K C) (hx : H x = some (.ins C dx (hsF R T F))) (hF : H F = some (.dK qs)) (hz : qs.length ≤ 1000)
    (k1 : f = z → D.nx [some (.ref x), some (.ref D0), some (.ref M), some (.ref L), some (.ref Ls), some (.str z), some row, some (.str f)] (upd H F (.dK (putK qs (Sum.inr z) (.str f)))))
    (k2 : f ≠ z → ∀ Lk, upd H F (.dK (putK qs (Sum.inr z) (.str f))) Lk = none → D.nx [some (.ref x), some (.ref D0), some (.ref M), some (.ref L), some (.ref Ls), some (.str z), some (.ref Lk), some (.str f)] (upd (upd H F (.dK (putK qs (Sum.inr z) (.str f)))) Lk (.tup [.str "link", .str f]))) :
    fA K D [some (.ref x), some (.ref D0), some (.ref M), some (.ref L), some (.ref Ls), some (.str z), some row, some (.str f)] H := by
  unfold fA
  walk_at "rd"
  refine r_fldE hx hc.cl hc.firsts rfl ?_
  walk_at "rd"
  refine ⟨F, _, rfl, DPut.k (k := Sum.inr z) hF (Nat.lt_of_le_of_lt hz (by decide)), ?_⟩
  walk_at "rd"
  rw [dec_strV]
  by_cases h : f = z
  · rw [decide_eq_true h]
    exact r_iteF (r_next (k1 h))
  · rw [decide_eq_false h]
    refine r_iteT ?_
    walk_at "rd"
    exact k2 h _ (by assumption)
end
section
variable {P : Program} {w : World} {K : PySem.W.Frag} {mg : Str → Option Value} {base : Heap}
def spFilled (K : PySem.W.Frag) (C : Addr) : Sp := fun vs H Q _ => ∃ (x dx R T F D M : Addr) (l : List (Str × Thg)) (ms : List (Str × Key)), vs = [.ref x, .ref D, .ref M] ∧ H x = some (.ins C dx (hsF R T F)) ∧ H T = some (.dK []) ∧ H F = some (.dK []) ∧ T ≠ F ∧ D ≠ T ∧ D ≠ F ∧ M ≠ T ∧ M ≠ F ∧
  ThR K H D l ∧ MkR H M ms ∧ l.length < 64 ∧ (l.map (·.1)).Nodup ∧
  ∀ ys H', ys.Perm (l.map (·.1)) → sortedS ys = true → (∀ b o, b ≠ x → b ≠ T → b ≠ F → H b = some o → H' b = some o) → HsTF K C H' x T F (hsOf l ms ys) → Q (.ref x) H'
theorem ok_filled {f C : Addr} {fd : FuncData} {k : Nat} (F : Fun K "filled" "filled" s_filled f fd) (hc : HsC K C) (m1 : mg "sorted" = none) (m2 : mg "tuple" = none) : FnOk P w K mg base CX0 (k + 2) f fd ["house", "things", "marks"] (spFilled K C) := by
  refine F.ok sc_filled (fun vs H Q E9 h => ?_) (fun cdv A outer s H vs Q E9 hr h => ?_)
  · obtain ⟨x, dx, R, T, F, D, M, l, ms, rfl, _⟩ := h
    rfl
  · obtain ⟨x, dx, R, T, F, D, M, l, ms, rfl, hx, hT, hF, nTF, nDT, nDF, nMT, nMF, ⟨ds, hD, tD⟩, ⟨ks, hM, tM⟩, hl, hnd, q⟩ := h
    have hu := hu_of hr
    have nd := sc_filled.nd
    have hcl := hc.cl
    refine ⟨_, (pss_cons (ps_set (i := 3) nd rfl (Or.inl rfl) (pe_lst pa_nil))
      (pss_cons (ps_set (i := 4) nd rfl (Or.inl rfl) pe_dnewK)
      (pss_cons (ps_for PassesOwn.never rfl (pi_list (pe_callB (call_sortedD rfl) (by rfl) (by assumption) (by decide +kernel) (pa_cons (pv 1) pa_nil))) (pg_name (i := 5) nd rfl (Or.inl rfl))
        (pss_cons (ps_dput hu (pe_fldN K (pv 0)) (pv 5) (pe_dget hu (pv 1) (pv 5) (fun _ _ => rfl)) rfl)
      (pss_cons (ps_set (i := 6) nd rfl (Or.inl rfl) (pe_dget hu (pv 1) (pv 5) (fun _ _ => rfl)))
      (pss_cons (ps_if (pt_cmp (pc_din hu (pv 5) (pv 2)))
        (pss_cons (ps_set (i := 7) nd rfl (Or.inl rfl) (pe_dsetd (pv 4) (pe_dget hu (pv 2) (pv 5) (fun _ _ => rfl)) (pv 5) ⟨rfl, rfl, rfl, rfl⟩))
      (pss_cons (ps_dput hu (pe_fldN K (pv 0)) (pv 5) (pv 7) rfl)
      (pss_one (ps_if (pt_cmpR op_ne (pv 7) (pv 5) (nomark _))
        (pss_one (ps_set (i := 6) nd rfl (Or.inl rfl) (pe_tup (pa_cons pe_str (pa_cons (pv 7) pa_nil)))))
        pss_nil))))
        pss_nil)
      (pss_one (ps_expr (pe_bm PySem.F.plainAttrs_list PySem.F.slot_list_append PySem.F.type_list_append mt_append (pv 3) (pa_cons (pe_tup (pa_cons (pv 5) (pa_cons (pv 6) pa_nil))) pa_nil))))))))
      (pss_cons (ps_fld (pv 0) (pe_tupleOf (by rfl) (by assumption) (pv 3)) rfl)
      (pss_one (ps_ret (pv 0))))))), ?_⟩
    walk_at "rd"
    rename_i L hL0 Ls hLs0
    have e1 := same_new (o := HO.lst []) hL0
    have e2 := same_new (o := HO.dK []) hLs0
    have E2 := e1.trans e2
    have hLs : H Ls = none := e1.free hLs0
    have nLLs : L ≠ Ls := ne_of_none upd_same hLs0
    have hD2 : Rd (upd (upd H L (.lst [])) Ls (.dK [])) D (.dK ds) := hD.elim (fun g => .inl (E2 _ _ g)) fun ⟨o, g⟩ => .inr ⟨o, E2 _ _ g⟩
    refine ⟨D, ds, l.map (·.1), rfl, hD2, tD.keys, by rw [List.length_map]; exact hl, fun ys S hpm hst hS => ?_⟩
    have e3 := same_new (o := HO.lst (ys.map V.str)) hS
    have E3 := E2.trans e3
    refine ⟨S, rfl, ⟨_, SqL.of upd_same⟩, ?_⟩
    have nTL : T ≠ L := ne_of_none hT hL0
    have nFL : F ≠ L := ne_of_none hF hL0
    have nTLs : T ≠ Ls := ne_of_none hT hLs
    have nFLs : F ≠ Ls := ne_of_none hF hLs
    have gS : upd (upd (upd H L (.lst [])) Ls (.dK [])) S (.lst (ys.map V.str)) S = some (.lst (ys.map V.str)) := upd_same
    have nST : S ≠ T := (ne_of_none (E2 _ _ hT) hS).symm
    have nSF : S ≠ F := (ne_of_none (E2 _ _ hF) hS).symm
    have nSL : S ≠ L := (ne_of_none (e2 _ _ (show upd H L (.lst []) L = _ from upd_same)) hS).symm
    have nSLs : S ≠ Ls := (ne_of_none (show upd (upd H L (.lst [])) Ls (.dK []) Ls = _ from upd_same) hS).symm
    refine for_it (walk_list (xs := ys.map V.str)) (fun i σ H' => ∃ v5 v6 v7, σ = [some (.ref x), some (.ref D), some (.ref M), some (.ref L), some (.ref Ls), v5, v6, v7] ∧ FilI K (upd (upd (upd H L (.lst [])) Ls (.dK [])) S (.lst (ys.map V.str))) H' L Ls T F l ms ys i) ?_ (fun i σ H' _ ⟨_, _, _, _, g⟩ => SqL.of (g.fr _ _ nST nSF nSL nSLs gS)) ?_ ?_
    · refine ⟨none, none, none, rfl, fun _ _ _ _ _ _ h => h, TK.refl _, ⟨[], ?_, .nil⟩, ⟨[], ?_, Nat.zero_le _, fun k => rfl⟩, ⟨[], E3 _ _ hT, .nil⟩, ⟨[], E3 _ _ hF, .nil⟩⟩
      · rw [upd_ne nSL.symm, upd_ne nLLs, upd_same]
      · rw [upd_ne nSLs.symm, upd_same]
    · rintro i v σ Hc H' hi ⟨v5, v6, v7, rfl, g⟩ ⟨rfl, hv⟩
      rw [List.getElem?_map] at hv
      obtain ⟨z, hz, rfl⟩ : ∃ x, ys[i]? = some x ∧ V.str x = v := by
        cases e : ys[i]? with
        | none => rw [e] at hv; cases hv
        | some x => rw [e] at hv; exact ⟨x, rfl, Option.some.inj hv⟩
      have hi' : i < ys.length := by rw [List.length_map] at hi; exact hi
      have yl : ys.length < 64 := by rw [hpm.length_eq, List.length_map]; exact hl
      have hzm : z ∈ l.map (·.1) := hpm.mem_iff.mp (List.mem_of_getElem? hz)
      have ynd : ys.Nodup := hpm.nodup_iff.mpr hnd
      have hzt : z ∉ ys.take i := by
        intro hm
        have e : ys = ys.take i ++ z :: ys.drop (i + 1) := by
          rw [← (List.getElem?_eq_some_iff.mp hz).2, List.getElem_cons_drop, List.take_append_drop]
        rw [e, List.nodup_append] at ynd
        exact ynd.2.2 z hm z List.mem_cons_self rfl
      obtain ⟨⟨z', y⟩, hm, hzz⟩ := List.mem_map.mp hzm
      have hzz : z' = z := hzz
      subst hzz
      have ly := look_nd hnd hm
      rcases tD.get (z := z') with ⟨_, h2⟩ | ⟨v, y', d1, h2, d3⟩
      · rw [ly] at h2; cases h2
      rw [ly] at h2
      cases h2
      have xL : x ≠ L := ne_of_none hx hL0
      have xLs : x ≠ Ls := ne_of_none hx hLs
      have xT : x ≠ T := fun e => by rw [e, hT] at hx; cases hx
      have xF : x ≠ F := fun e => by rw [e, hF] at hx; cases hx
      have gx := g.fr _ _ xT xF xL xLs (E3 _ _ hx)
      have nDL : D ≠ L := by rcases hD with h | ⟨o, h⟩ <;> exact ne_of_none h hL0
      have nDLs : D ≠ Ls := by rcases hD with h | ⟨o, h⟩ <;> exact ne_of_none h hLs
      have nML : M ≠ L := by rcases hM with h | ⟨o, h⟩ <;> exact ne_of_none h hL0
      have nMLs : M ≠ Ls := by rcases hM with h | ⟨o, h⟩ <;> exact ne_of_none h hLs
      have gD : Rd H' D (.dK ds) := hD.elim (fun h => .inl (g.fr _ _ nDT nDF nDL nDLs (E3 _ _ h))) fun ⟨o, h⟩ => .inr ⟨o, g.fr _ _ nDT nDF nDL nDLs (E3 _ _ h)⟩
      have gM : Rd H' M (.dK ks) := hM.elim (fun h => .inl (g.fr _ _ nMT nMF nML nMLs (E3 _ _ h))) fun ⟨o, h⟩ => .inr ⟨o, g.fr _ _ nMT nMF nML nMLs (E3 _ _ h)⟩
      obtain ⟨vs, gL, pL⟩ := g.rows
      obtain ⟨ps, gT, pT⟩ := g.th
      obtain ⟨qs, gF, pF⟩ := g.fi
      obtain ⟨ls, gLs, lls, pLs⟩ := g.lst
      have hv' : Thg.At K H' v y := d3.tk ((Same.tk E3).trans g.tk)
      have psl : ps.length ≤ 64 := by rw [pT.len, List.length_map, List.length_take]; omega
      have qsl : qs.length ≤ 64 := by
        have := firstsP_len (ms := ms) (ys := ys) (a := ys.take i)
        rw [pF.len]
        rw [List.length_take] at this
        omega
      have vsl : vs.length ≤ 64 := by rw [Paired.length pL, List.length_map, List.length_take]; omega
      walk_at "rd"
      refine ⟨D, v, rfl, .inl ⟨ds, Sum.inr z', gD, rfl, d1.symm⟩, ?_⟩
      walk_at "rd"
      refine r_fldE gx hc.cl hc.things rfl ?_
      walk_at "rd"
      refine ⟨T, _, rfl, DPut.k (k := Sum.inr z') gT (Nat.lt_of_le_of_lt psl (by decide)), ?_⟩
      walk_at "rd"
      have H1 : ∃ H1, H1 = upd H' T (.dK (putK ps (Sum.inr z') v)) := ⟨_, rfl⟩
      obtain ⟨H1, eH1⟩ := H1
      rw [← eH1]
      have k1 : ∀ b o, b ≠ T → H' b = some o → H1 b = some o := fun b o n h => by rw [eH1, upd_ne n]; exact h
      have tk1 : TK H' H1 := by rw [eH1]; exact tk_dK gT
      have gT1 : H1 T = some (.dK (putK ps (Sum.inr z') v)) := by rw [eH1]; exact upd_same
      have gD1 : Rd H1 D (.dK ds) := gD.elim (fun h => .inl (k1 _ _ nDT h)) fun ⟨o, h⟩ => .inr ⟨o, k1 _ _ nDT h⟩
      have gM1 : Rd H1 M (.dK ks) := gM.elim (fun h => .inl (k1 _ _ nMT h)) fun ⟨o, h⟩ => .inr ⟨o, k1 _ _ nMT h⟩
      have gx1 := k1 _ _ xT gx
      have gL1 := k1 _ _ nTL.symm gL
      have gLs1 := k1 _ _ nTLs.symm gLs
      have gF1 := k1 _ _ nTF.symm gF
      have fr1 : ∀ b o, b ≠ T → b ≠ F → b ≠ L → b ≠ Ls → upd (upd (upd H L (.lst [])) Ls (.dK [])) S (.lst (ys.map V.str)) b = some o → H1 b = some o := fun b o n1 n2 n3 n4 h => k1 _ _ n1 (g.fr b o n1 n2 n3 n4 h)
      have hth : thingP l z' = y := by unfold thingP; rw [ly]; rfl
      have hvT : Thg.At K H' v (thingP l z') := by rw [hth]; exact hv'
      refine ⟨D, v, rfl, .inl ⟨ds, Sum.inr z', gD1, rfl, d1.symm⟩, ?_⟩
      refine (show tSeq (tIfS (tB (tDIn (tVar 5) (tVar 2))) (tSeq (tAsg (tDSetd (tVar 4) (tDGet (tVar 2) (tVar 5)) (tVar 5)) (gName 7)) (fA K)) tNext) (fB K) _ [some (.ref x), some (.ref D), some (.ref M), some (.ref L), some (.ref Ls), some (.str z'), some v, v7] H1 from ?_)
      refine r_seq ?_
      refine r_if ?_
      walk_at "rd"
      refine ⟨M, valV ks (Sum.inr z'), rfl, .inl ⟨ks, Sum.inr z', gM1, rfl, rfl⟩, ?_⟩
      refine ⟨_, rfl, ?_⟩
      have tks : ys.take (i + 1) = ys.take i ++ [z'] := take_snoc hz
      have zF : z' ∉ (firstsP ms ys (ys.take i)).map (·.1) := fun h => hzt (firstsP_keys h)
      rcases tM.get (z := z') with ⟨m1', m2'⟩ | ⟨vk, kk, m1', m2', rfl⟩
      · rw [m1', if_neg (by decide)]
        refine r_next ?_
        refine (show fB K _ _ _ from ok_fB gL1 (by omega) fun E9 hE9 => ?_)
        refine ⟨_, _, _, rfl, FilI.step hz hzt fr1 g.tk tk1 gL1 pL gLs1 (by omega) (fun k => ?_) gT1 pT hvT gF1 ?_ ?_ hE9⟩
        · rw [pLs, tks, firstM_app, firstM_one, m2', if_neg (by simp), Option.or_none]
        · rw [tks, firstsP_app, firstsP_one, m2', if_neg (by simp), List.append_nil]
          exact pF
        · have fo : firstOf ms ys z' = z' := by unfold firstOf; rw [m2']; rfl
          unfold rowP
          rw [if_pos fo]
          exact hvT.tk tk1
      · rw [m1', if_pos (show (some (kV kk)).isSome = true from rfl)]
        refine r_seq ?_
        refine r_asg ?_
        refine r_dsetd ?_
        walk_at "rd"
        refine ⟨Ls, rfl, .inl ⟨ls, .inl gLs1⟩, ?_⟩
        walk_at "rd"
        refine ⟨M, kV kk, rfl, .inl ⟨ks, Sum.inr z', gM1, rfl, m1'.symm⟩, ?_⟩
        walk_at "rd"
        have fone : ∀ k2, firstM ms (ys.take (i + 1)) k2 = (firstM ms (ys.take i) k2).or (if kk = k2 then some z' else none) := fun k2 => by
          rw [tks, firstM_app, firstM_one, m2']
          congr 1
          by_cases h : kk = k2
          · rw [if_pos (by rw [h]), if_pos h]
          · rw [if_neg (fun e => h (Option.some.inj e)), if_neg h]
        have fsP : ∀ f, firstOf ms ys z' = f → TabR (fun v z => v = .str z) (putK qs (Sum.inr z') (.str f)) (firstsP ms ys (ys.take (i + 1))) := fun f fo => by
          rw [tks, firstsP_app, firstsP_one, m2', if_pos (show (some kk).isSome = true from rfl), fo, ← put_keys_new zF]
          exact pF.put rfl
        refine ⟨ls, kk, gLs1, rfl, Nat.lt_of_le_of_lt (by omega : _ ≤ 64) (by decide), fun v2 hv2 => ?_, fun hn => ?_⟩
        · rw [pLs] at hv2
          obtain ⟨f, hf, rfl⟩ := Option.map_eq_some_iff.mp hv2
          have fo : firstOf ms ys z' = f := by
            unfold firstOf
            rw [m2']
            show (firstM ms ys kk).getD z' = f
            rw [firstM_pre hf]
            rfl
          have tk2 : TK H' (upd H1 F (.dK (putK qs (Sum.inr z') (.str f)))) := tk1.trans (tk_dK gF1)
          have nLF : L ≠ F := nFL.symm
          have fr2 : ∀ b o, b ≠ T → b ≠ F → b ≠ L → b ≠ Ls → upd (upd (upd H L (.lst [])) Ls (.dK [])) S (.lst (ys.map V.str)) b = some o → upd H1 F (.dK (putK qs (Sum.inr z') (.str f))) b = some o := fun b o n1 n2 n3 n4 h => by rw [upd_ne n2]; exact fr1 b o n1 n2 n3 n4 h
          have pLs2 : ∀ k, valV ls k = (firstM ms (ys.take (i + 1)) k).map V.str := fun k => by
            rw [pLs, fone]
            by_cases h : kk = k
            · subst h
              rw [hf]
              rfl
            · rw [if_neg h, Option.or_none]
          refine r_gname ?_
          refine (show fA K _ _ _ from ok_fA hc gx1 gF1 (by omega) (fun hfz => ?_) (fun hfz Lk hLk => ?_))
          · refine (show fB K _ _ _ from ok_fB (by rw [upd_ne nLF]; exact gL1) (by omega) fun E9 hE9 => ?_)
            refine ⟨_, _, _, rfl, FilI.step hz hzt fr2 g.tk tk2 (by rw [upd_ne nLF]; exact gL1) pL (by rw [upd_ne nFLs.symm]; exact gLs1) (by omega) pLs2 (by rw [upd_ne nTF]; exact gT1) pT hvT upd_same (fsP f fo) ?_ hE9⟩
            unfold rowP
            rw [if_pos (by rw [fo, hfz])]
            exact hvT.tk tk2
          · have eLk := same_new (o := HO.tup [V.str "link", V.str f]) hLk
            refine (show fB K _ _ _ from ok_fB (eLk _ _ (by rw [upd_ne nLF]; exact gL1)) (by omega) fun E9 hE9 => ?_)
            refine ⟨_, _, _, rfl, FilI.step hz hzt (fun b o n1 n2 n3 n4 h => eLk _ _ (fr2 b o n1 n2 n3 n4 h)) g.tk (tk2.trans (Same.tk eLk)) (eLk _ _ (by rw [upd_ne nLF]; exact gL1)) pL (eLk _ _ (by rw [upd_ne nFLs.symm]; exact gLs1)) (by omega) pLs2 (eLk _ _ (by rw [upd_ne nTF]; exact gT1)) pT hvT (eLk _ _ upd_same) (fsP f fo) ?_ hE9⟩
            unfold rowP
            rw [if_neg (by rw [fo]; exact hfz), fo]
            exact ⟨Lk, rfl, SqT.of upd_same⟩
        · rw [pLs] at hn
          have hf : firstM ms (ys.take i) kk = none := Option.map_eq_none_iff.mp hn
          have fo : firstOf ms ys z' = z' := by
            unfold firstOf
            rw [m2']
            show (firstM ms ys kk).getD z' = z'
            rw [firstM_pre (j := i + 1) (f := z') (by rw [fone, hf, if_pos rfl]; rfl)]
            rfl
          have gF2 : upd H1 Ls (.dK (putK ls kk (.str z'))) F = some (.dK qs) := by rw [upd_ne nFLs]; exact gF1
          have nLF : L ≠ F := nFL.symm
          have tk2 : TK H' (upd (upd H1 Ls (.dK (putK ls kk (.str z')))) F (.dK (putK qs (Sum.inr z') (.str z')))) := (tk1.trans (tk_dK gLs1)).trans (tk_dK gF2)
          refine r_gname ?_
          refine (show fA K _ _ _ from ok_fA hc (by rw [upd_ne xLs]; exact gx1) gF2 (by omega) (fun _ => ?_) (fun hfz Lk hLk => absurd rfl hfz))
          have gL3 : upd (upd H1 Ls (.dK (putK ls kk (.str z')))) F (.dK (putK qs (Sum.inr z') (.str z'))) L = some (.lst vs) := by rw [upd_ne nLF, upd_ne nLLs]; exact gL1
          refine (show fB K _ _ _ from ok_fB gL3 (by omega) fun E9 hE9 => ?_)
          refine ⟨_, _, _, rfl, FilI.step hz hzt (fun b o n1 n2 n3 n4 h => ?_) g.tk tk2 gL3 pL (by rw [upd_ne nFLs.symm]; exact upd_same) (Nat.le_trans (length_putK _ _ _) (by omega)) (fun k => ?_) (by rw [upd_ne nTF, upd_ne nTLs]; exact gT1) pT hvT upd_same (fsP z' fo) ?_ hE9⟩
          · rw [upd_ne n2, upd_ne n4]
            exact fr1 b o n1 n2 n3 n4 h
          · rw [valV_put, fone, pLs]
            by_cases h : k = kk
            · subst h
              rw [if_pos rfl, if_pos rfl, hf]
              rfl
            · rw [if_neg h, if_neg (Ne.symm h), Option.or_none]
          · unfold rowP
            rw [if_pos fo]
            exact hvT.tk tk2
    · rintro σ Hc ⟨v5, v6, v7, rfl, g⟩
      rw [List.length_map] at g
      obtain ⟨vs, gL, pL⟩ := g.rows
      obtain ⟨ps, gT, pT⟩ := g.th
      obtain ⟨qs, gF, pF⟩ := g.fi
      rw [List.take_length] at pL pT pF
      have xL : x ≠ L := ne_of_none hx hL0
      have xLs : x ≠ Ls := ne_of_none hx hLs
      have xT : x ≠ T := fun e => by rw [e, hT] at hx; cases hx
      have xF : x ≠ F := fun e => by rw [e, hF] at hx; cases hx
      have gx := g.fr _ _ xT xF xL xLs (E3 _ _ hx)
      unfold tThen
      walk_at "rd"
      refine .inl ⟨L, vs, rfl, SqL.of gL, fun R' hR' => ?_⟩
      have eR := same_new (o := HO.tup vs) hR'
      have xR : x ≠ R' := ne_of_none gx hR'
      have TR : T ≠ R' := ne_of_none gT hR'
      have FR : F ≠ R' := ne_of_none gF hR'
      have gx2 := eR _ _ gx
      walk_at "rd"
      refine ⟨x, C, dx, _, rfl, gx2, hc.cl, hc.rows, (show 3 < 1000 by decide), ?_⟩
      rw [hsF_put]
      walk_at "rd"
      have tk9 : TK Hc (upd (upd Hc R' (.tup vs)) x (.ins C dx (hsF R' T F))) := (tk_new hR').trans ⟨fun a xs h => by rw [upd_ne (fun e => by rw [e, gx2] at h; cases h)]; exact h, fun a o xs h => by rw [upd_ne (fun e => by rw [e, gx2] at h; cases h)]; exact h⟩
      refine q ys (upd (upd Hc R' (.tup vs)) x (.ins C dx (hsF R' T F))) hpm hst (fun b o nx n1 n2 hb => ?_) ⟨dx, R', vs, ps, qs, upd_same, ?_, Paired.mapP pL fun _ _ y => y.tk tk9, ?_, pT.mono fun _ _ y => y.tk tk9, ?_, pF, nTF⟩
      · have hc9 := g.fr _ _ n1 n2 (ne_of_none hb hL0) (ne_of_none hb hLs) (E3 _ _ hb)
        rw [upd_ne nx]
        exact eR _ _ hc9
      · rw [upd_ne xR.symm]
        exact upd_same
      · rw [upd_ne xT.symm]
        exact eR _ _ gT
      · rw [upd_ne xF.symm]
        exact eR _ _ gF
end
abbrev s_House_of : Stmt := inClass (topS 48) 3
abbrev N_House_of : List Str := ["cls", "entries", "path", "thing", "given", "things", "marks", "first"]
theorem sc_House_of : FnScope N_House_of ["cls", "entries"] (defScope s_House_of) := ⟨rfl, rfl, rfl, by decide +kernel, rfl, by decide +kernel, by decide +kernel⟩
/-! ### House.of -/
def firstN (q : Str × Thg) : Str := match q.2 with
  | .lnk f => f
  | _ => q.1
def thOf (l : List (Str × Thg)) (xs : List (Str × Thg)) : List (Str × Thg) := xs.map fun q => (q.1, thingP l (firstN q))
def mkOf (l : List (Str × Thg)) : List (Str × Thg) → List (Str × Key)
  | [] => []
  | q :: r => (if (thingP l (firstN q)).kind = "file" then [(q.1, Sum.inr (firstN q))] else []) ++ mkOf l r
theorem sqL_keep {K : PySem.W.Frag} {H H' : Hp} {E T M : Addr} {xs : List V} {ps qs : List (Key × V)} (k : ∀ b o, b ≠ T → b ≠ M → H b = some o → H' b = some o) (hT : H T = some (.dK ps)) (hM : H M = some (.dK qs)) (h : SqL K H E xs) : SqL K H' E xs := by
  rcases h with h | h
  · have n1 : E ≠ T := fun e => by subst e; rcases h with h | ⟨o, h⟩ <;> rw [hT] at h <;> cases h
    have n2 : E ≠ M := fun e => by subst e; rcases h with h | ⟨o, h⟩ <;> rw [hM] at h <;> cases h
    exact .inl (h.elim (fun g => .inl (k _ _ n1 n2 g)) fun ⟨o, g⟩ => .inr ⟨o, k _ _ n1 n2 g⟩)
  · exact .inr h
theorem sqT_keep2 {K : PySem.W.Frag} {H H' : Hp} {E T M : Addr} {xs : List V} {ps qs : List (Key × V)} (k : ∀ b o, b ≠ T → b ≠ M → H b = some o → H' b = some o) (hT : H T = some (.dK ps)) (hM : H M = some (.dK qs)) (h : SqT K H E xs) : SqT K H' E xs := by
  rcases h with h | h
  · have n1 : E ≠ T := fun e => by subst e; rcases h with h | ⟨o, h⟩ <;> rw [hT] at h <;> cases h
    have n2 : E ≠ M := fun e => by subst e; rcases h with h | ⟨o, h⟩ <;> rw [hM] at h <;> cases h
    exact .inl (h.elim (fun g => .inl (k _ _ n1 n2 g)) fun ⟨o, g⟩ => .inr ⟨o, k _ _ n1 n2 g⟩)
  · exact .inr h
theorem mkOf_app {l : List (Str × Thg)} : ∀ {a b : List (Str × Thg)}, mkOf l (a ++ b) = mkOf l a ++ mkOf l b
  | [], b => rfl
  | p :: a, b => by
    rw [List.cons_append]
    show _ ++ mkOf l (a ++ b) = (_ ++ mkOf l a) ++ _
    rw [mkOf_app, List.append_assoc]
theorem mkOf_one {l : List (Str × Thg)} {q : Str × Thg} : mkOf l [q] = if (thingP l (firstN q)).kind = "file" then [(q.1, Sum.inr (firstN q))] else [] := by
  show _ ++ [] = _
  rw [List.append_nil]
theorem mkOf_keys {l : List (Str × Thg)} : ∀ {a : List (Str × Thg)} {z : Str}, z ∈ (mkOf l a).map (·.1) → z ∈ a.map (·.1)
  | p :: a, z, h => by
    have h : z ∈ ((if (thingP l (firstN p)).kind = "file" then [(p.1, Sum.inr (firstN p))] else []) ++ mkOf l a).map (fun q : Str × Key => q.1) := h
    rw [List.map_append, List.mem_append] at h
    rw [List.map_cons]
    rcases h with h | h
    · split at h
      · rw [List.map_cons, List.map_nil, List.mem_singleton] at h
        rw [h]; exact List.mem_cons_self
      · cases h
    · exact List.mem_cons_of_mem _ (mkOf_keys h)
theorem mkOf_len {l : List (Str × Thg)} : ∀ {a : List (Str × Thg)}, (mkOf l a).length ≤ a.length
  | [] => Nat.le_refl _
  | p :: a => by
    show ((if (thingP l (firstN p)).kind = "file" then [(p.1, Sum.inr (firstN p))] else []) ++ mkOf l a).length ≤ _
    rw [List.length_append, List.length_cons]
    have := mkOf_len (l := l) (a := a)
    split
    · rw [List.length_singleton]; omega
    · rw [List.length_nil]; omega
theorem nd_takeK {α : Type} {l : List (Str × α)} {i : Nat} {z : Str} {x : α} (nd : (l.map (·.1)).Nodup) (h : l[i]? = some (z, x)) : z ∉ (l.take i).map (·.1) := fun hm => by
  have e := nd_take nd h
  obtain ⟨⟨a, b⟩, hq, rfl⟩ := List.mem_map.mp hm
  have g := look_nd (l := l.take i) (by rw [List.map_take]; exact (List.take_sublist _ _).nodup nd) hq
  rw [g] at e
  cases e
def tHf (K : PySem.W.Frag) : TS := tSeq (sDPut (tVar 5) (tVar 2) (tDGet (tVar 4) (tVar 7))) (tIfS (tTest (tOp rEq (tOp (rIxT K) (tDGet (tVar 4) (tVar 7)) (tC (V.int 0))) (tC (V.str (Str.ofString "file"))))) (sDPut (tVar 6) (tVar 2) (tVar 7)) tNext)
theorem ok_tHf {K : PySem.W.Frag} {D : Ends} {H : Hp} {C E D2 Td Md : Addr} {z f : Str} {v3 : Option V} {y : Thg} {gs ps qs : List (Key × V)} {u : V} (hG : H D2 = some (.dK gs)) (hg : valV gs (Sum.inr f) = some u) (hu : Thg.At K H u y) (hT : H Td = some (.dK ps)) (hp : ps.length ≤ 1000) (hM : H Md = some (.dK qs)) (hq : qs.length ≤ 1000) (nTM : Td ≠ Md) (nTG : D2 ≠ Td)
    (k1 : y.kind = "file" → D.nx [some (.ref C), some (.ref E), some (.str z), v3, some (.ref D2), some (.ref Td), some (.ref Md), some (.str f)] (upd (upd H Td (.dK (putK ps (Sum.inr z) u))) Md (.dK (putK qs (Sum.inr z) (.str f)))))
    (k2 : y.kind ≠ "file" → D.nx [some (.ref C), some (.ref E), some (.str z), v3, some (.ref D2), some (.ref Td), some (.ref Md), some (.str f)] (upd H Td (.dK (putK ps (Sum.inr z) u)))) :
    tHf K D [some (.ref C), some (.ref E), some (.str z), v3, some (.ref D2), some (.ref Td), some (.ref Md), some (.str f)] H := by
  unfold tHf
  walk_at "rd"
  refine ⟨D2, u, rfl, .inl ⟨gs, Sum.inr f, .inl hG, rfl, hg.symm⟩, ?_⟩
  walk_at "rd"
  refine ⟨Td, _, rfl, DPut.k (k := Sum.inr z) hT (Nat.lt_of_le_of_lt hp (by decide)), ?_⟩
  have hG1 : upd H Td (.dK (putK ps (Sum.inr z) u)) D2 = some (.dK gs) := by rw [upd_ne nTG]; exact hG
  have hM1 : upd H Td (.dK (putK ps (Sum.inr z) u)) Md = some (.dK qs) := by rw [upd_ne nTM.symm]; exact hM
  obtain ⟨t, rfl, ht⟩ := hu.tk (tk_dK (o := .dK (putK ps (Sum.inr z) u)) hT)
  obtain ⟨r, hr⟩ := y.vals0
  rw [hr] at ht
  walk_at "rd"
  refine ⟨D2, .ref t, rfl, .inl ⟨gs, Sum.inr f, .inl hG1, rfl, hg.symm⟩, ?_⟩
  walk_at "rd"
  refine r_ixT (i := 0) (v := .str y.kind) ht (atI_nat (j := 0) rfl) ?_
  walk_at "rd"
  rw [dec_strV]
  refine r_iteD (fun h => ?_) (fun h => ?_)
  · walk_at "rd"
    refine ⟨Md, _, rfl, DPut.k (k := Sum.inr z) hM1 (Nat.lt_of_le_of_lt hq (by decide)), ?_⟩
    exact k1 h
  · exact r_next (k2 h)
theorem ok_newHs {C : Addr} {σ : L2.St} {H : Hp} {Q : VK} (k : ∀ x dx R T F H', H x = none → H T = none → H F = none → T ≠ F → Same H H' → H' x = some (.ins C dx (hsF R T F)) → H' R = some (.tup []) → H' T = some (.dK []) → H' F = some (.dK []) → Q (.ref x) H') : tMake C (spHInit C) [] E0 tNil σ H Q := by
  refine r_make ?_
  intro x dx hx hdx ne
  have up : ∀ y, upd (upd H dx (HO.own x)) x (HO.ins C dx []) y = none → H y = none := fun y hy => by
    have n1 : y ≠ x := fun e => by rw [e, upd_same] at hy; cases hy
    rw [upd_ne n1] at hy
    have n2 : y ≠ dx := fun e => by rw [e, upd_same] at hy; cases hy
    rw [upd_ne n2] at hy
    exact hy
  refine ⟨x, dx, rfl, upd_same, fun R T F H2 hR hT hF nTF fr gx gR gT gF => ⟨rfl, ?_⟩⟩
  exact k x dx R T F H2 hx (up _ hT) (up _ hF) nTF (fun b o eo => fr _ _ (ne_of_none eo hx) (by
    rw [upd_ne (ne_of_none eo hx), upd_ne (ne_of_none eo hdx)]
    exact eo)) gx gR gT gF
theorem thOf_keys {l xs : List (Str × Thg)} : (thOf l xs).map (·.1) = xs.map (·.1) := by
  unfold thOf
  rw [List.map_map]
  rfl
section
variable {P : Program} {w : World} {K : PySem.W.Frag} {mg : Str → Option Value} {base : Heap}
def spHOf (K : PySem.W.Frag) (C : Addr) : Sp := fun vs H Q _ => ∃ (E : Addr) (l : List (Str × Thg)), vs = [.ref C, .ref E] ∧ EntL K H E l ∧ l.length < 64 ∧ EntOk l ∧
  ∀ ys x H', ys.Perm (l.map (·.1)) → sortedS ys = true → H x = none → Same H H' → HsNw K C H H' x (hsOf (thOf l l) (mkOf l l) ys) → Q (.ref x) H'
theorem ok_hof {f C : Addr} {fd : FuncData} {k : Nat} (F : Fun K "of" "House.of" s_House_of f fd) (hc : HsC K C) (c_entries : CalT P w K mg base 6 "are_entries" (spEntries K)) (c_filled : CalT P w K mg base 2 "filled" (spFilled K C)) (mk0_House : Mk0T P w K mg base 2 "House" C (spHInit C)) : FnOk P w K mg base CX0 (k + 7) f fd ["cls", "entries"] (spHOf K C) := by
  refine F.ok sc_House_of (fun vs H Q E9 h => ?_) (fun cdv A outer s H vs Q E9 hr h => ?_)
  · obtain ⟨E, l, rfl, _⟩ := h
    rfl
  · obtain ⟨E, l, rfl, hE, hl, hok, q⟩ := h
    have hu := hu_of hr
    have nd := sc_House_of.nd
    refine ⟨_, (pss_cons (ps_if (pt_not (pt_val (pe_cc c_entries hr (by omega) (by rfl) (pa_cons (pv 1) pa_nil))))
        (pss_one ps_never)
        pss_nil)
      (pss_cons (ps_setDc (i := 4) (own := [("path", 2), ("thing", 3)]) (g := (gTup K 2 (gCons (gName 2) (gCons (gName 3) gNil)))) (tt := tYes) rfl nd rfl rfl (sw_trueD rfl rfl rfl (by decide +kernel)) (pi_list (pv 1)) (blkOk_by (N := N_House_of) (sc := defScope s_House_of) (by decide +kernel)) (fun _ _ _ _ _ => (pg_tupK K (pg_tup rfl (pgs_cons (pg_name (i := 2) nd rfl (Or.inl rfl)) (pgs_cons (pg_name (i := 3) nd rfl (Or.inl rfl)) pgs_nil))))) (fun _ _ _ _ _ => pts_nil) (fun _ _ _ _ _ => (pv 2)) (fun _ _ _ _ _ => (pv 3)))
      (pss_cons (ps_set (i := 5) nd rfl (Or.inl rfl) pe_dnewK)
      (pss_cons (ps_set (i := 6) nd rfl (Or.inl rfl) pe_dnewK)
      (pss_cons (ps_for PassesOwn.never rfl (pi_list (pv 1)) (pg_tupK K (pg_tup rfl (pgs_cons (pg_name (i := 2) nd rfl (Or.inl rfl)) (pgs_cons (pg_name (i := 3) nd rfl (Or.inl rfl)) pgs_nil))))
        (pss_cons (ps_set (i := 7) nd rfl (Or.inl rfl) (pe_ifExp (pt_cmpR op_eq (pe_ix (ix_tupK K) (pv 3) pe_int (fun _ _ => rfl)) pe_str (nomark _)) (pe_ix (ix_tupK K) (pv 3) pe_int (fun _ _ => rfl)) (pv 2)))
      (pss_cons (ps_dput hu (pv 5) (pv 2) (pe_dget hu (pv 4) (pv 7) (fun _ _ => rfl)) rfl)
      (pss_one (ps_if (pt_cmpR op_eq (pe_ix (ix_tupK K) (pe_dget hu (pv 4) (pv 7) (fun _ _ => rfl)) pe_int (fun _ _ => rfl)) pe_str (nomark _))
        (pss_one (ps_dput hu (pv 6) (pv 2) (pv 7) rfl))
        pss_nil)))))
      (pss_one (ps_ret (pe_cc c_filled hr (by omega) (by rfl) (pa_cons (pe_mkV mk0_House hr (by omega) (pv 0)) (pa_cons (pv 5) (pa_cons (pv 6) pa_nil))))))))))), ?_⟩
    walk_at "rd"
    refine ⟨E, l, rfl, hE, by omega, hok, fun H1 e1 => ?_⟩
    walk_at "rd"
    unfold tDc
    obtain ⟨es, hEs, hp⟩ := id hE
    have el : es.length = l.length := Paired.length hp
    walk_at "rd"
    refine ⟨E, rfl, ⟨_, e1.seq hEs⟩, ?_⟩
    intro D2 hD2
    refine dc_it (walk_list (xs := es)) (fun i H' => Same H1 H' ∧ ∃ ps, H' D2 = some (.dK ps) ∧ TabR (Thg.At K H1) ps (l.take i)) ⟨same_new hD2, [], upd_same, .nil⟩ (fun i H' _ ⟨e, _⟩ => e.seq (e1.seq hEs)) ?_ ?_
    · rintro i v Hc H' hi ⟨e, ps, hps, htb⟩ ⟨rfl, hv⟩
      obtain ⟨⟨z, x⟩, hq9, en, u, rfl, hx, hux⟩ := paired_at hp hv
      have hx2 : SqT K H' en [.str z, u] := sqT_same (e1.trans e) hx
      walk_at "rd"
      refine ⟨rfl, ?_⟩
      unfold tYes
      dsimp only
      rw [if_pos rfl]
      walk_at "rd"
      refine ⟨ps, Sum.inr z, rfl, hps, ?_, fun b o eo => by rw [upd_ne (ne_of_none eo hD2)]; exact e _ _ eo, _, upd_same, ?_⟩
      · have := htb.len
        rw [List.length_take] at this
        exact Nat.lt_of_le_of_lt (by omega : _ ≤ 1000) (by decide)
      · rw [take_snoc hq9, ← put_new (nd_take hok.nd hq9)]
        exact htb.put (hux.same e1)
    · rintro H4 ⟨e4, gs, hgs, gtb⟩
      rw [el, List.take_length] at gtb
      walk_at "rd"
      rename_i Td hTd Md hMd
      have f1 := same_new (o := HO.dK []) hTd
      have f2 := same_new (o := HO.dK []) hMd
      have F4 := f1.trans f2
      have E5 := (e1.trans e4).trans F4
      have nTM : Td ≠ Md := ne_of_none upd_same hMd
      refine ⟨E, rfl, ⟨_, E5.seq hEs⟩, ?_⟩
      have gT0 : upd (upd H4 Td (.dK [])) Md (.dK []) Td = some (.dK []) := by rw [upd_ne nTM]; exact upd_same
      have gM0 : upd (upd H4 Td (.dK [])) Md (.dK []) Md = some (.dK []) := upd_same
      have gG0 : upd (upd H4 Td (.dK [])) Md (.dK []) D2 = some (.dK gs) := F4 _ _ hgs
      have nGT : D2 ≠ Td := ne_of_none hgs hTd
      have nGM : D2 ≠ Md := ne_of_none hgs (f1.free hMd)
      have hnd := hok.nd
      refine for_it (walk_list (xs := es)) (fun i σ H' => ∃ v2 v3 v7, σ = [some (.ref C), some (.ref E), v2, v3, some (.ref D2), some (.ref Td), some (.ref Md), v7] ∧ (∀ b o, b ≠ Td → b ≠ Md → upd (upd H4 Td (.dK [])) Md (.dK []) b = some o → H' b = some o) ∧ TK H H' ∧
        (∃ ps, H' Td = some (.dK ps) ∧ TabR (Thg.At K H1) ps (thOf l (l.take i))) ∧ ∃ ps, H' Md = some (.dK ps) ∧ TabR (fun v k => v = kV k) ps (mkOf l (l.take i))) ?_ (fun i σ H' _ ⟨_, _, _, _, fr, _⟩ => sqL_keep fr gT0 gM0 (E5.seq hEs)) ?_ ?_
      · exact ⟨none, none, none, rfl, fun _ _ _ _ h => h, Same.tk E5, ⟨[], gT0, .nil⟩, [], gM0, .nil⟩
      · rintro i v σ Hc H' hi ⟨v2, v3, v7, rfl, fr, tkc, ⟨ps, gT, pT⟩, qs, gM, pM⟩ ⟨rfl, hv⟩
        obtain ⟨⟨z, x⟩, hq9, en, u, rfl, hx, hux⟩ := paired_at hp hv
        have hx2 : SqT K H' en [.str z, u] := sqT_tk tkc hx
        have hm := List.mem_of_getElem? hq9
        have gG := fr _ _ nGT nGM gG0
        have tks : l.take (i + 1) = l.take i ++ [(z, x)] := take_snoc hq9
        have zk := nd_takeK hnd hq9
        have psl : ps.length ≤ 64 := by
          rw [pT.len]
          unfold thOf
          rw [List.length_map, List.length_take]
          omega
        have qsl : qs.length ≤ 64 := by
          have := mkOf_len (l := l) (a := l.take i)
          rw [pM.len]
          rw [List.length_take] at this
          omega
        have fin : ∀ (D : Ends) (fst : Str) (y9 : Thg), (∀ σ' H'', (∃ v2 v3 v7, σ' = [some (.ref C), some (.ref E), v2, v3, some (.ref D2), some (.ref Td), some (.ref Md), v7] ∧ (∀ b o, b ≠ Td → b ≠ Md → upd (upd H4 Td (.dK [])) Md (.dK []) b = some o → H'' b = some o) ∧ TK H H'' ∧
            (∃ ps, H'' Td = some (.dK ps) ∧ TabR (Thg.At K H1) ps (thOf l (l.take (i + 1)))) ∧ ∃ ps, H'' Md = some (.dK ps) ∧ TabR (fun v k => v = kV k) ps (mkOf l (l.take (i + 1)))) → D.nx σ' H'') →
            firstN (z, x) = fst → look l fst = some y9 → tHf K D [some (.ref C), some (.ref E), some (.str z), some u, some (.ref D2), some (.ref Td), some (.ref Md), some (.str fst)] H' := by
          intro D fst y9 hD hf hl9
          rcases gtb.get (z := fst) with ⟨_, h2⟩ | ⟨w9, y', d1, h2, d3⟩
          · rw [hl9] at h2; cases h2
          rw [hl9] at h2
          cases h2
          have hth : thingP l (firstN (z, x)) = y9 := by unfold thingP; rw [hf, hl9]; rfl
          have hw : Thg.At K H' w9 y9 := by
            obtain ⟨t, r1, r2⟩ := d3
            exact ⟨t, r1, sqT_keep2 fr gT0 gM0 (sqT_same (e4.trans F4) r2)⟩
          have pT2 : TabR (Thg.At K H1) (putK ps (Sum.inr z) w9) (thOf l (l.take (i + 1))) := by
            rw [tks]
            unfold thOf
            rw [List.map_append, List.map_cons, List.map_nil, hth, ← put_keys_new (by rw [List.map_map]; exact zk)]
            exact TabR.put pT d3
          refine ok_tHf gG d1 hw gT (by omega) gM (by omega) nTM nGT (fun hk => hD _ _ ?_) (fun hk => hD _ _ ?_)
          · refine ⟨_, _, _, rfl, fun b o n1 n2 h => by rw [upd_ne n2, upd_ne n1]; exact fr b o n1 n2 h, tkc.trans ((tk_dK gT).trans (tk_dK (by rw [upd_ne nTM.symm]; exact gM))), ⟨_, by rw [upd_ne nTM]; exact upd_same, pT2⟩, _, upd_same, ?_⟩
            rw [tks, mkOf_app, mkOf_one, hth, if_pos hk, hf, ← put_keys_new (fun h => zk (mkOf_keys h))]
            exact pM.put rfl
          · refine ⟨_, _, _, rfl, fun b o n1 n2 h => by rw [upd_ne n1]; exact fr b o n1 n2 h, tkc.trans (tk_dK gT), ⟨_, upd_same, pT2⟩, qs, by rw [upd_ne nTM.symm]; exact gM, ?_⟩
            rw [tks, mkOf_app, mkOf_one, hth, if_neg hk, List.append_nil]
            exact pM
        obtain ⟨tu, rfl, hut⟩ := hux
        have hut2 := sqT_tk tkc hut
        have lz := look_nd hnd hm
        cases x with
        | lnk f =>
          have hut2 : SqT K H' tu [.str "link", .str f] := hut2
          have hst : kindA l f = "file" := by
            have h := hok.st _ hm
            unfold standsB at h
            rw [Bool.and_eq_true, lz] at h
            exact of_decide_eq_true h.2
          cases lf : look l f with
          | none =>
            unfold kindA at hst
            rw [lf] at hst
            exact absurd hst (by decide +kernel)
          | some y9 =>
            repeat (first | exact (show tHf K _ _ _ from fin _ f y9 (fun _ _ h => h) rfl lf) | walk_at "rd2" | (rw [decide_eq_true rfl]; refine r_iteT ?_))
        | dir m i2 =>
          have hut2 : SqT K H' tu [.str "directory", .int m, .int i2] := hut2
          repeat (first | exact (show tHf K _ _ _ from fin _ z _ (fun _ _ h => h) rfl lz) | walk_at "rd2")
        | file y m i2 =>
          have hut2 : SqT K H' tu [.str "file", .byt y, .int m, .int i2] := hut2
          repeat (first | exact (show tHf K _ _ _ from fin _ z _ (fun _ _ h => h) rfl lz) | walk_at "rd2")
        | sym g m i2 =>
          have hut2 : SqT K H' tu [.str "symlink", .str g, .int m, .int i2] := hut2
          repeat (first | exact (show tHf K _ _ _ from fin _ z _ (fun _ _ h => h) rfl lz) | walk_at "rd2")
      · rintro σ Hc ⟨v2, v3, v7, rfl, fr, tkc, ⟨ps, gT, pT⟩, qs, gM, pM⟩
        rw [el, List.take_length] at pT pM
        walk_at "rd"
        unfold tMakeV
        walk_at "rd"
        refine ⟨rfl, ?_⟩
        refine ok_newHs fun x dx R T F H6 hx hT hF nTF e6 gx gR gT6 gF6 => ?_
        have gTd := e6 _ _ gT
        have gMd := e6 _ _ gM
        have s16 : Same H1 H6 := fun b o h => e6 _ _ (fr b o (ne_of_none (e4 _ _ h) hTd) (ne_of_none (f1 _ _ (e4 _ _ h)) hMd) (F4 _ _ (e4 _ _ h)))
        walk_at "rd"
        refine ⟨x, dx, R, T, F, Td, Md, thOf l l, mkOf l l, rfl, gx, gT6, gF6, nTF, ne_of_none gT hT, ne_of_none gT hF, ne_of_none gM hT, ne_of_none gM hF, ⟨ps, .inl gTd, pT.mono fun _ _ y => y.same s16⟩, ⟨qs, .inl gMd, pM⟩, by unfold thOf; rw [List.length_map]; exact hl, by rw [thOf_keys]; exact hnd, fun ys H7 hpm hst fr7 hH => ?_⟩
        have free : ∀ y, Hc y = none → H y = none := fun y hy => by
          cases g : H y with
          | none => rfl
          | some o =>
            have h5 := E5 _ _ g
            have n1 : y ≠ Td := ne_of_none (e4 _ _ (e1 _ _ g)) hTd
            have n2 : y ≠ Md := ne_of_none (f1 _ _ (e4 _ _ (e1 _ _ g))) hMd
            rw [fr _ _ n1 n2 h5] at hy
            cases hy
        rw [thOf_keys] at hpm
        refine q ys x H7 hpm hst (free _ hx) (fun b o h => ?_) ⟨T, F, free _ hT, free _ hF, hH⟩
        have h6 := s16 _ _ (e1 _ _ h)
        have hc6 : Hc b = some o := fr b o (ne_of_none (e4 _ _ (e1 _ _ h)) hTd) (ne_of_none (f1 _ _ (e4 _ _ (e1 _ _ h))) hMd) (F4 _ _ (e4 _ _ (e1 _ _ h)))
        exact fr7 b o (ne_of_none hc6 hx) (ne_of_none hc6 hT) (ne_of_none hc6 hF) h6
end
abbrev s_Tree___init__ : Stmt := inClass (topS 60) 0
abbrev N_Tree___init__ : List Str := ["self", "house", "path"]
theorem sc_Tree___init__ : FnScope N_Tree___init__ ["self", "house"] (defScope s_Tree___init__) := ⟨rfl, rfl, rfl, by decide +kernel, rfl, by decide +kernel, by decide +kernel⟩
/-! ### trees -/
structure TrC (K : PySem.W.Frag) (C : Addr) : Prop where
  cl : Cls K C
  things : NoAttr K C "things"
  marks : NoAttr K C "marks"
  many : NoAttr K C "many"
def trF (D M : Addr) (n : Int) : List (Str × V) := putF "many" (.int n) (putF "marks" (.ref M) (putF "things" (.ref D) []))
structure Trd where
  things : List (Str × Thg)
  marks : List (Str × Key)
  many : Int
structure TrIn (K : PySem.W.Frag) (C : Addr) (H : Hp) (x dx D M : Addr) (ps qs : List (Key × V)) (t : Trd) : Prop where
  ob : H x = some (.ins C dx (trF D M t.many))
  d : H D = some (.dK ps)
  pd : TabR (Thg.At K H) ps t.things
  m : H M = some (.dK qs)
  pm : TabR (fun v k => v = kV k) qs t.marks
  ne : D ≠ M
def TrAt (K : PySem.W.Frag) (C : Addr) (H : Hp) (x : Addr) (t : Trd) : Prop := ∃ dx D M ps qs, TrIn K C H x dx D M ps qs t
theorem valV_nd {k : Key} {v : V} : ∀ {ps : List (Key × V)}, (ps.map (·.1)).Nodup → (k, v) ∈ ps → valV ps k = some v
  | [], _, h => nomatch h
  | p :: ps, nd, h => by
    rw [List.map_cons, List.nodup_cons] at nd
    rcases List.mem_cons.mp h with e | h
    · subst e
      exact valV_pos rfl
    · rw [valV_neg (fun e => nd.1 (by rw [e]; exact List.mem_map.mpr ⟨_, h, rfl⟩)), valV_nd nd.2 h]
theorem valV_no {k : Key} : ∀ {ps : List (Key × V)}, k ∉ ps.map (·.1) → valV ps k = none
  | [], _ => rfl
  | p :: ps, h => by
    rw [List.map_cons, List.mem_cons, not_or] at h
    rw [valV_neg (Ne.symm h.1), valV_no h.2]
theorem putK_take {ps : List (Key × V)} {i : Nat} {k : Key} {v : V} (nd : (ps.map (·.1)).Nodup) (h : ps[i]? = some (k, v)) : putK (ps.take i) k v = ps.take (i + 1) := by
  rw [take_snoc h]
  refine putK_new v (valV_no fun hm => ?_)
  have e : ps = ps.take i ++ (k, v) :: ps.drop (i + 1) := by
    rw [← (List.getElem?_eq_some_iff.mp h).2, List.getElem_cons_drop, List.take_append_drop]
  rw [e, List.map_append, List.nodup_append] at nd
  exact nd.2.2 k hm k (by simp) rfl
theorem TabR.nd {α : Type} {R : V → α → Prop} {ps : List (Key × V)} {l : List (Str × α)} (h : TabR R ps l) (nd : (l.map (·.1)).Nodup) : (ps.map (·.1)).Nodup := by
  rw [h.keys]
  exact List.Pairwise.map Sum.inr (fun a b h e => h (Sum.inr.inj e)) nd
theorem tabR_map : ∀ {ps : List (Key × V)} {l : List (Str × Str)}, TabR (fun v z => v = .str z) ps l → TabR (fun v k => v = kV k) ps (l.map fun q => (q.1, (Sum.inr q.2 : Key)))
  | [], [], .nil => .nil
  | p :: ps, q :: l, .cons h r => .cons ⟨h.1, h.2⟩ (tabR_map r)
def tCp (K : PySem.W.Frag) (f : Str) : TE := tLockE (tDc (iKeys (tFld K (tVar 1) f)) (gName 2) tYes (tVar 2) (tDGet (tFld K (tVar 1) f) (tVar 2)) (List.map (fun x => x.snd) [(Str.ofString "path", 2)]))
/-- a copy of a dict of the house -/
theorem ok_cp {K : PySem.W.Frag} {H : Hp} {Q : VK} {x : V} {v2 : Option V} {y dy CH T : Addr} {fs : List (Str × V)} {f : Str} {ps : List (Key × V)} (hy : H y = some (.ins CH dy fs)) (hc : Cls K CH) (hn : NoAttr K CH f) (hf : fs.lookup f = some (.ref T)) (hT : H T = some (.dK ps)) (nd : (ps.map (·.1)).Nodup) (hl : ps.length ≤ 1000)
    (k : ∀ D H', H D = none → Same H H' → H' D = some (.dK ps) → Q (.ref D) H') : tCp K f [some x, some (.ref y), v2] H Q := by
  have nyT : y ≠ T := fun e => by rw [e, hT] at hy; cases hy
  unfold tCp tLockE
  refine ⟨T, .dK ps, hT, True.intro, fun od => ?_⟩
  have gl : upd H T (.frz od (.dK ps)) T = some (.frz od (.dK ps)) := upd_same
  have gy : upd H T (.frz od (.dK ps)) y = some (.ins CH dy fs) := by rw [upd_ne nyT]; exact hy
  unfold tDc iKeys
  walk_at "rd"
  refine r_fldE gy hc hn hf ?_
  refine ⟨T, od, rfl, .inl ⟨ps, gl, ?_⟩⟩
  intro D hD
  refine dc_it walk_keys (fun i H' => Same (upd H T (.frz od (.dK ps))) H' ∧ H' D = some (.dK (ps.take i))) ⟨same_new hD, upd_same⟩ (fun i H' _ ⟨e, _⟩ => e _ _ gl) ?_ ?_
  · rintro i v Hc H' hi ⟨e, hb'⟩ ⟨rfl, kk, v9, hv, rfl⟩
    walk_at "rd"
    refine ⟨rfl, ?_⟩
    unfold tYes
    dsimp only
    rw [if_pos rfl]
    walk_at "rd"
    refine r_fldE (e _ _ gy) hc hn hf ?_
    walk_at "rd"
    refine ⟨T, v9, rfl, .inl ⟨ps, kk, .inr ⟨od, e _ _ gl⟩, rfl, (valV_nd nd (List.mem_of_getElem? hv)).symm⟩, ?_⟩
    refine ⟨_, kk, rfl, hb', ?_, fun b o eo => by rw [upd_ne (ne_of_none eo hD)]; exact e _ _ eo, ?_⟩
    · rw [List.length_take]
      exact Nat.lt_of_le_of_lt (by omega : _ ≤ 1000) (by decide)
    · rw [upd_same, putK_take nd hv]
  · rintro H3 ⟨e, hb'⟩
    rw [List.take_length] at hb'
    refine ⟨e _ _ gl, ?_⟩
    have nDT : D ≠ T := fun h => by rw [h, gl] at hD; cases hD
    have hDn : H D = none := by rw [upd_ne nDT] at hD; exact hD
    refine k D _ hDn (fun b o h => ?_) (by rw [upd_ne nDT]; exact hb')
    by_cases n : b = T
    · subst n
      rw [hT] at h
      cases h
      exact upd_same
    · rw [upd_ne n]
      exact e _ _ (by rw [upd_ne n]; exact h)
section
variable {P : Program} {w : World} {K : PySem.W.Frag} {mg : Str → Option Value} {base : Heap}
def spTInit (K : PySem.W.Frag) (C CH : Addr) : Sp := fun vs H Q _ => ∃ (x dx y : Addr) (h : Hs), vs = [.ref x, .ref y] ∧ H x = some (.ins C dx []) ∧ HsAt K CH H y h ∧ (h.things.map (·.1)).Nodup ∧ (h.firsts.map (·.1)).Nodup ∧ h.things.length ≤ 1000 ∧ h.firsts.length ≤ 1000 ∧
  ∀ D M ps qs H', H D = none → H M = none → Frame x H H' → TrIn K C H' x dx D M ps qs ⟨h.things, h.firsts.map fun q => (q.1, Sum.inr q.2), 0⟩ → Q .non H'
theorem ok_tinit {f C CH : Addr} {fd : FuncData} {k : Nat} (F : Fun K "__init__" "Tree.__init__" s_Tree___init__ f fd) (hc : TrC K C) (hh : HsC K CH) : FnOk P w K mg base CX0 (k + 2) f fd ["self", "house"] (spTInit K C CH) := by
  refine F.ok sc_Tree___init__ (fun vs H Q E9 h => ?_) (fun cdv A outer s H vs Q E9 hr h => ?_)
  · obtain ⟨x, dx, y, h, rfl, _⟩ := h
    rfl
  · obtain ⟨x, dx, y, h, rfl, hx, ⟨dy, R, T, F, vs, ps, qs, g⟩, nd1, nd2, l1, l2, q⟩ := h
    have hu := hu_of hr
    have nd := sc_Tree___init__.nd
    have hcl := hc.cl
    have a1 := hc.things
    have a2 := hc.marks
    have a3 := hc.many
    refine ⟨_, (pss_cons (ps_fld (pv 0) (pe_lock (pe_dc (own := [("path", 2)]) (g := (gName 2)) (tt := tYes) rfl nd (pi_keys (pe_fldN K (pv 1))) (blkOk_by (N := N_Tree___init__) (sc := defScope s_Tree___init__) (by decide +kernel)) (fun _ _ _ _ _ => (pg_name (i := 2) nd rfl (Or.inl rfl))) (fun _ _ _ _ _ => pts_nil) (fun _ _ _ _ _ => (pv 2)) (fun _ _ _ _ _ => (pe_dget hu (pe_fldN K (pv 1)) (pv 2) (fun _ _ => rfl))))) rfl)
      (pss_cons (ps_fld (pv 0) (pe_lock (pe_dc (own := [("path", 2)]) (g := (gName 2)) (tt := tYes) rfl nd (pi_keys (pe_fldN K (pv 1))) (blkOk_by (N := N_Tree___init__) (sc := defScope s_Tree___init__) (by decide +kernel)) (fun _ _ _ _ _ => (pg_name (i := 2) nd rfl (Or.inl rfl))) (fun _ _ _ _ _ => pts_nil) (fun _ _ _ _ _ => (pv 2)) (fun _ _ _ _ _ => (pe_dget hu (pe_fldN K (pv 1)) (pv 2) (fun _ _ => rfl))))) rfl)
      (pss_one (ps_fld (pv 0) pe_int rfl)))), ?_⟩
    have nyx : y ≠ x := fun e => by
      have := g.ob
      rw [e, hx] at this
      cases this
    have hlt : ps.length ≤ 1000 := by rw [g.pt.len]; exact l1
    have hlf : qs.length ≤ 1000 := by rw [g.pf.len]; exact l2
    walk_at "rd"
    refine (show tCp K (Str.ofString "things") _ _ _ from ok_cp g.ob hh.cl hh.things rfl g.t (g.pt.nd nd1) hlt fun D H1 hD e1 gD => ?_)
    have gx1 := e1 _ _ hx
    walk_at "rd"
    have e1' : ∀ b o, b ≠ x → H b = some o → upd H1 x (.ins C dx (putF (Str.ofString "things") (.ref D) [])) b = some o := fun b o n h => by rw [upd_ne n]; exact e1 _ _ h
    have nFx : F ≠ x := fun e => by have := g.f; rw [e, hx] at this; cases this
    have nDx : D ≠ x := (ne_of_none hx hD).symm
    refine (show tCp K (Str.ofString "firsts") _ _ _ from ok_cp (e1' _ _ nyx g.ob) hh.cl hh.firsts rfl (e1' _ _ nFx g.f) (g.pf.nd nd2) hlf fun M H2 hM e2 gM => ?_)
    have gx2 := e2 _ _ (show upd H1 x (.ins C dx (putF (Str.ofString "things") (.ref D) [])) x = _ from upd_same)
    have gD2 := e2 _ _ (show upd H1 x (.ins C dx (putF (Str.ofString "things") (.ref D) [])) D = some (.dK ps) by rw [upd_ne nDx]; exact gD)
    have nMx : M ≠ x := (ne_of_none (show upd H1 x (.ins C dx (putF (Str.ofString "things") (.ref D) [])) x = _ from upd_same) hM).symm
    walk_at "rd"
    have nDM : D ≠ M := ne_of_none (show upd H1 x (.ins C dx (putF (Str.ofString "things") (.ref D) [])) D = some (.dK ps) by rw [upd_ne nDx]; exact gD) hM
    have tkx : TK H2 (upd (upd H2 x (.ins C dx (putF (Str.ofString "marks") (.ref M) (putF (Str.ofString "things") (.ref D) [])))) x (.ins C dx (trF D M 0))) :=
      ⟨fun a xs h => by rw [upd_ne (fun e => by rw [e, gx2] at h; cases h), upd_ne (fun e => by rw [e, gx2] at h; cases h)]; exact h, fun a o xs h => by rw [upd_ne (fun e => by rw [e, gx2] at h; cases h), upd_ne (fun e => by rw [e, gx2] at h; cases h)]; exact h⟩
    have tk1 : TK H (upd H1 x (.ins C dx (putF (Str.ofString "things") (.ref D) []))) :=
      (Same.tk e1).trans ⟨fun a xs h => by rw [upd_ne (fun e => by rw [e, gx1] at h; cases h)]; exact h, fun a o xs h => by rw [upd_ne (fun e => by rw [e, gx1] at h; cases h)]; exact h⟩
    have tkA := (tk1.trans (Same.tk e2)).trans tkx
    have hMn : H M = none := by
      cases g9 : H M with
      | none => rfl
      | some o => rw [e1' _ _ nMx g9] at hM; cases hM
    refine q D M ps qs (upd (upd H2 x (.ins C dx (putF (Str.ofString "marks") (.ref M) (putF (Str.ofString "things") (.ref D) [])))) x (.ins C dx (trF D M 0))) hD hMn (fun b o n h => ?_) ⟨upd_same, ?_, g.pt.mono fun _ _ y => y.tk tkA, ?_, ?_, nDM⟩
    · rw [upd_ne n, upd_ne n]
      exact e2 _ _ (e1' _ _ n h)
    · rw [upd_ne nDx, upd_ne nDx]
      exact gD2
    · rw [upd_ne nMx, upd_ne nMx]
      exact gM
    · exact tabR_map g.pf
end
abbrev s_Tree_house : Stmt := inClass (topS 60) 1
abbrev N_Tree_house : List Str := ["self"]
theorem sc_Tree_house : FnScope N_Tree_house ["self"] (defScope s_Tree_house) := ⟨rfl, rfl, rfl, by decide +kernel, rfl, by decide +kernel, by decide +kernel⟩
/-! ### what a tree answers -/
section
variable {P : Program} {w : World} {K : PySem.W.Frag} {mg : Str → Option Value} {base : Heap}
def spTHouse (K : PySem.W.Frag) (C CH : Addr) : Sp := fun vs H Q _ => ∃ (x : Addr) (t : Trd), vs = [.ref x] ∧ TrAt K C H x t ∧ t.things.length < 64 ∧ (t.things.map (·.1)).Nodup ∧
  ∀ ys y H', ys.Perm (t.things.map (·.1)) → sortedS ys = true → H y = none → Same H H' → HsNw K CH H H' y (hsOf t.things t.marks ys) → Q (.ref y) H'
theorem ok_thouse {f C CH : Addr} {fd : FuncData} {k : Nat} (F : Fun K "house" "Tree.house" s_Tree_house f fd) (hc : TrC K C) (c_filled : CalT P w K mg base 2 "filled" (spFilled K CH)) (mk0_House : Mk0T P w K mg base 2 "House" CH (spHInit CH)) : FnOk P w K mg base CX0 (k + 4) f fd ["self"] (spTHouse K C CH) := by
  refine F.ok sc_Tree_house (fun vs H Q E9 h => ?_) (fun cdv A outer s H vs Q E9 hr h => ?_)
  · obtain ⟨x, t, rfl, _⟩ := h
    rfl
  · obtain ⟨x, t, rfl, ⟨dx, D, M, ps, qs, g⟩, hl, hnd, q⟩ := h
    have hu := hu_of hr
    have nd := sc_Tree_house.nd
    refine ⟨_, (pss_one (ps_ret (pe_cc c_filled hr (by omega) (by rfl) (pa_cons (pe_mk0 mk0_House hr (by omega) (by rfl)) (pa_cons (pe_fldN K (pv 0)) (pa_cons (pe_fldN K (pv 0)) pa_nil)))))), ?_⟩
    walk_at "rd"
    refine ok_newHs fun y dy R T F H6 hy hT hF nTF e6 gx gR gT6 gF6 => ?_
    walk_at "rd"
    refine r_fldE (e6 _ _ g.ob) hc.cl hc.things rfl ?_
    walk_at "rd"
    refine r_fldE (e6 _ _ g.ob) hc.cl hc.marks rfl ?_
    walk_at "rd"
    refine ⟨y, dy, R, T, F, D, M, t.things, t.marks, rfl, gx, gT6, gF6, nTF, ne_of_none g.d hT, ne_of_none g.d hF, ne_of_none g.m hT, ne_of_none g.m hF, ⟨ps, .inl (e6 _ _ g.d), g.pd.mono fun _ _ y => y.same e6⟩, ⟨qs, .inl (e6 _ _ g.m), g.pm⟩, hl, hnd, fun ys H7 hpm hst fr7 hH => ?_⟩
    exact q ys y H7 hpm hst hy (fun b o h => fr7 b o (ne_of_none h hy) (ne_of_none h hT) (ne_of_none h hF) (e6 _ _ h)) ⟨T, F, hT, hF, hH⟩
end
abbrev s_Tree_refusal_at : Stmt := inClass (topS 60) 2
abbrev N_Tree_refusal_at : List Str := ["self", "path", "member", "target", "kind"]
theorem sc_Tree_refusal_at : FnScope N_Tree_refusal_at ["self", "path", "member", "target"] (defScope s_Tree_refusal_at) := ⟨rfl, rfl, rfl, by decide +kernel, rfl, by decide +kernel, by decide +kernel⟩
/-! ### what a tree refuses -/
structure KitD (K : PySem.W.Frag) (c : Cs) : Prop where
  dd : PySem.W.kitOne K (.ref c.D) (.ref c.D) = some true
  fd : PySem.W.kitOne K (.ref c.F) (.ref c.D) = some false
  sd : PySem.W.kitOne K (.ref c.S) (.ref c.D) = some false
  yd : PySem.W.kitOne K (.ref c.Y) (.ref c.D) = some false
  ld : PySem.W.kitOne K (.ref c.L) (.ref c.D) = some false
  yl : PySem.W.kitOne K (.ref c.Y) (.ref c.L) = some false
def Mem.cls (c : Cs) : Mem → Addr
  | .file .. => c.F
  | .sparse .. => c.S
  | .dir .. => c.D
  | .sym .. => c.Y
  | .lnk .. => c.L
def Mem.isDir : Mem → Bool
  | .dir .. => true
  | _ => false
def Mem.isLnk : Mem → Bool
  | .lnk .. => true
  | _ => false
theorem Mem.tyM {K : PySem.W.Frag} {c : Cs} {aM x : Addr} {H : Hp} {m : Mem} (M : MF K c aM) (h : m.Ins c H x) : TyX K H (.ref x) (.ref (m.cls c)) := by
  cases m with
  | file n b t ns => obtain ⟨dx, hx⟩ := h; exact M.fF.ty hx
  | sparse n b t z sp => obtain ⟨dx, p, hx, _⟩ := h; exact M.fS.ty hx
  | dir n b t => obtain ⟨dx, hx⟩ := h; exact M.fD.ty hx
  | sym n b t g => obtain ⟨dx, hx⟩ := h; exact M.fY.ty hx
  | lnk n b t g => obtain ⟨dx, hx⟩ := h; exact M.fL.ty hx
theorem Mem.kitD {K : PySem.W.Frag} {c : Cs} (N : KitD K c) (m : Mem) : PySem.W.kitOne K (.ref (m.cls c)) (.ref c.D) = some m.isDir := by
  cases m
  · exact N.fd
  · exact N.sd
  · exact N.dd
  · exact N.yd
  · exact N.ld
theorem Mem.kitL {K : PySem.W.Frag} {c : Cs} {aM : Addr} (M : MF K c aM) (N : KitD K c) (m : Mem) : PySem.W.kitOne K (.ref (m.cls c)) (.ref c.L) = some m.isLnk := by
  cases m
  · exact M.kt.fl
  · exact M.kt.sl
  · exact M.kt.dl
  · exact N.yl
  · exact M.kt.ll
def refP (l : List (Str × Thg)) (z : Str) (m : Mem) (tg : Str) : Str :=
  if m.isDir = true then (if ("file" == kindA l z || "symlink" == kindA l z) = true then "occupied" else "")
  else if kindA l z = "directory" then "directory" else if (m.isLnk && !decide (kindA l tg = "file")) = true then "target" else ""
section
variable {P : Program} {w : World} {K : PySem.W.Frag} {mg : Str → Option Value} {base : Heap}
def spRefAt (K : PySem.W.Frag) (C : Addr) (c : Cs) : Sp := fun vs H Q _ => ∃ (x y : Addr) (z tg : Str) (t : Trd) (m : Mem), vs = [.ref x, .str z, .ref y, .str tg] ∧ TrAt K C H x t ∧ m.Ins c H y ∧ ∀ H', Same H H' → Q (.str (refP t.things z m tg)) H'
theorem ok_refat {f C aM : Addr} {fd : FuncData} {k : Nat} {c : Cs} (F : Fun K "refusal_at" "Tree.refusal_at" s_Tree_refusal_at f fd) (hc : TrC K C) (m1 : mg "isinstance" = none) (M : MF K c aM) (N : KitD K c) (m_D : mg "Directory" = some (.ref c.D)) (m_L : mg "Link" = some (.ref c.L)) (c_kind_at : CalT P w K mg base 2 "kind_at" (spKindAt K)) : FnOk P w K mg base CX0 (k + 3) f fd ["self", "path", "member", "target"] (spRefAt K C c) := by
  refine F.ok sc_Tree_refusal_at (fun vs H Q E9 h => ?_) (fun cdv A outer s H vs Q E9 hr h => ?_)
  · obtain ⟨x, y, z, tg, t, m, rfl, _⟩ := h
    rfl
  · obtain ⟨x, y, z, tg, t, m, rfl, ⟨dx, D, Mk, ps, qs, g⟩, hm, q⟩ := h
    have hu := hu_of hr
    have nd := sc_Tree_refusal_at.nd
    have hTh : ThR K H D t.things := ⟨ps, .inl g.d, g.pd⟩
    have ty := Mem.tyM M hm
    unfold refP at q
    refine ⟨_, (pss_cons (ps_set (i := 4) nd rfl (Or.inl rfl) (pe_cc c_kind_at hr (by omega) (by rfl) (pa_cons (pv 1) (pa_cons (pe_fldN K (pv 0)) pa_nil))))
      (pss_cons (ps_if (pt_val (pe_callB (call_isiK1 K) (by rfl) (by assumption) (by decide +kernel) (pa_cons (pv 2) (pa_cons (pe_glob (v := .ref c.D) (by rfl) m_D (by first | exact rfl | exact ⟨_, rfl⟩)) pa_nil))))
        (pss_one (ps_ret (pe_ifExp (pt_cmpR (op_inK K) (pv 4) (pe_tup (pa_cons pe_str (pa_cons pe_str pa_nil))) (by rfl)) pe_str pe_str)))
        pss_nil)
      (pss_cons (ps_if (pt_cmpR op_eq (pv 4) pe_str (nomark _))
        (pss_one (ps_ret pe_str))
        pss_nil)
      (pss_cons (ps_if (PW.pt (pw_and (pt_val (pe_callB (call_isiK1 K) (by rfl) (by assumption) (by decide +kernel) (pa_cons (pv 2) (pa_cons (pe_glob (v := .ref c.L) (by rfl) m_L (by first | exact rfl | exact ⟨_, rfl⟩)) pa_nil)))) (pw_and1 (pt_cmpR op_ne (pe_cc c_kind_at hr (by omega) (by rfl) (pa_cons (pv 3) (pa_cons (pe_fldN K (pv 0)) pa_nil))) pe_str (nomark _)))))
        (pss_one (ps_ret pe_str))
        pss_nil)
      (pss_one (ps_ret pe_str)))))), ?_⟩
    walk_at "rd"
    refine r_fldE g.ob hc.cl hc.things rfl ?_
    walk_at "rd"
    refine ⟨z, D, t.things, rfl, hTh, ?_⟩
    walk_at "rd"
    refine r_is1 ty (Mem.kitD N m) ?_
    refine ⟨_, rfl, ?_⟩
    cases hdir : m.isDir with
    | true =>
      rw [hdir, if_pos rfl] at q
      walk_at "rd"
      rename_i p9 hp9
      have e9 := same_new (o := HO.tup [V.str "file", V.str "symlink"]) hp9
      rw [show inV (.str (kindA t.things z)) [.str "file", .str "symlink"] = ("file" == kindA t.things z || "symlink" == kindA t.things z) by simp [inV, eqV]]
      cases hk : ("file" == kindA t.things z || "symlink" == kindA t.things z) with
      | true =>
        rw [hk, if_pos rfl] at q
        walk_at "rd"
        exact q _ e9
      | false =>
        rw [hk, if_neg (by decide)] at q
        walk_at "rd"
        exact q _ e9
    | false =>
      rw [hdir, if_neg (by decide)] at q
      walk_at "rd"
      rw [dec_strV]
      refine r_iteD (fun h => ?_) (fun h => ?_)
      · rw [if_pos h] at q
        walk_at "rd"
        exact q _ (Same.refl _)
      · rw [if_neg h] at q
        walk_at "rd"
        refine r_is1 ty (Mem.kitL M N m) ?_
        refine ⟨_, rfl, ?_⟩
        cases hl : m.isLnk with
        | false =>
          rw [hl, Bool.false_and, if_neg (by decide)] at q
          walk_at "rd"
          exact q _ (Same.refl _)
        | true =>
          rw [hl, Bool.true_and] at q
          walk_at "rd"
          refine r_fldE g.ob hc.cl hc.things rfl ?_
          walk_at "rd"
          refine ⟨tg, D, t.things, rfl, hTh, ?_⟩
          walk_at "rd"
          rw [dec_strV]
          cases hf : decide (kindA t.things tg = "file") with
          | true =>
            rw [hf, if_neg (by decide)] at q
            walk_at "rd"
            exact q _ (Same.refl _)
          | false =>
            rw [hf, if_pos (by decide)] at q
            walk_at "rd"
            exact q _ (Same.refl _)
end
abbrev s_File_content : Stmt := inClass (topS 38) 4
abbrev N_File_content : List Str := ["self"]
theorem sc_File_content : FnScope N_File_content ["self"] (defScope s_File_content) := ⟨rfl, rfl, rfl, by decide +kernel, rfl, by decide +kernel, by decide +kernel⟩
abbrev s_Sparse_content : Stmt := inClass (topS 39) 4
abbrev N_Sparse_content : List Str := ["self", "parts", "end", "offset", "data"]
theorem sc_Sparse_content : FnScope N_Sparse_content ["self"] (defScope s_Sparse_content) := ⟨rfl, rfl, rfl, by decide +kernel, rfl, by decide +kernel, by decide +kernel⟩
/-! ### content -/
def rBytesN : List V → Hp → VK → Prop := fun xs H Q => ∃ n : Int, xs = [.int n] ∧ 0 ≤ n ∧ n ≤ 16777216 ∧ Q (.byt (Array.replicate n.toNat 0)) H
theorem call_bytesN {X : Cx} : CallR X (.type "bytes") rBytesN := by
  intro pins s σ H xs us Q I r h
  obtain ⟨n, rfl, h0, h1, q⟩ := h
  obtain ⟨u, rfl, t, rfl⟩ : ∃ u, us = [u] ∧ ∃ t, u = Value.int n t := by
    obtain ⟨u, rfl, ru⟩ := vals1 r
    exact ⟨u, rfl, ru⟩
  exact call_bytes_size h0 h1 fun t' k => ⟨.byt _, H, I.tok k, ⟨_, rfl⟩, q⟩
theorem r_bytesN {n : Int} {H : Hp} {Q : VK} (h0 : 0 ≤ n) (h1 : n ≤ 16777216) (h : Q (.byt (Array.replicate n.toNat 0)) H) : rBytesN [.int n] H Q := ⟨n, rfl, h0, h1, h⟩
/-- a method of bytes -/
def tBMB (r : V → List V → Hp → VK → Prop) (to : TE) (t : TA) : TE := fun σ H Q => to σ H fun x H1 => ∃ y, x = .byt y ∧ t σ H1 fun xs H2 => r x xs H2 Q
theorem pe_bmB {X : Cx} {o e : Expr} {es : List Expr} {to : TE} {t : TA} {name : Str} {apos cpos : Pos} {id : String} {r : V → List V → Hp → VK → Prop} (pa : PlainAttrs "bytes") (slot : Slot "bytes" name id) (hty : typeOf (.builtin id) = pure (.type "method_descriptor")) (hm : MtR X id r) (ho : PE X o to) (ha : PA X (e :: es) t)
    (hbase : attributeBase o name X.env (eval o X.env) = eval o X.env := by rfl)
    (hfew : ((backTo cpos (starEach (e :: es) X.env)).all (fun x => !x.1) && (backToKw cpos (keywordEach [] X.env)).all (fun x => x.1.isSome)
      && decide ((e :: es).length + ([] : List Keyword).length + (if ([] : List Keyword).isEmpty then 0 else 1) < 30)) = true := by rfl)
    (hline : (apos.endLine == cpos.line) = true := by rfl) (hs : starEach (e :: es) X.env = (false, eval e X.env) :: starEach es X.env := by rfl) (hplain : (backTo cpos (starEach es X.env)).any (·.1) = false := by rfl) :
    PE X (.Call (.Attribute o name apos) (e :: es) [] cpos) (tBMB r to t) := by
  refine ⟨fun pins s σ H Q I h => ?_⟩
  refine wpAny_Call_method_late hbase hfew hline rfl (thn (ho.run pins s σ H _ I h) fun v s1 ⟨x, H1, I1, r1, y, ex, q1⟩ => ?_)
  subst ex
  obtain ⟨tk, rfl⟩ := (show ∃ tk, v = Value.bytes y tk from r1)
  refine ⟨"bytes", id, pa, slot, hty, PySem.W.typeIs_bytes s1 y tk, fun a e => (by cases e), ?_⟩
  have hA := ha.run cpos pins s1 σ H1 _ I1 q1
  rw [hs] at hA ⊢
  refine Calls.callWith_builtin (by show (false || (backTo cpos (starEach es X.env)).any (·.1)) = false; rw [hplain] <;> rfl) (Calls.evalArgs_plain ?_)
  exact thn hA fun us s2 ⟨vs, H2, I2, r2, q2⟩ => hm pins s2 σ H2 (.byt y) vs _ us Q I2 r1 r2 q2
theorem r_bmB {σ : L2.St} {H : Hp} {Q : VK} {r : V → List V → Hp → VK → Prop} {to : TE} {t : TA} (h : to σ H fun x H1 => ∃ y, x = .byt y ∧ t σ H1 fun xs H2 => r x xs H2 Q) : tBMB r to t σ H Q := h
/-- all the bytes of a list of bytes, one after another -/
def flatB (bs : List (Array UInt8)) : List UInt8 := (bs.map Array.toList).flatten
theorem flatB_snoc (bs : List (Array UInt8)) (y : Array UInt8) : flatB (bs ++ [y]) = flatB bs ++ y.toList := by
  unfold flatB
  simp
theorem fold_join : ∀ (l : List (Array UInt8 × Nat)) (acc : Array UInt8), (l.foldl (fun out (p : Array UInt8 × Nat) => (if p.2 > 0 then out ++ (#[] : Array UInt8) else out) ++ p.1) acc).toList = acc.toList ++ ((l.map Prod.fst).map Array.toList).flatten
  | [], acc => by simp
  | (p, i) :: r, acc => by
    rw [List.foldl_cons, fold_join r]
    by_cases h : i > 0
    · simp [h]
    · simp [h]
theorem joined_flat (bs : List (Array UInt8)) : (Builtin.Bytes.joined #[] bs).toList = flatB bs := by
  unfold Builtin.Bytes.joined
  have h := fold_join bs.zipIdx #[]
  rw [List.zipIdx_map_fst] at h
  exact h
theorem fold_size : ∀ (bs : List (Array UInt8)) (n : Nat), bs.foldl (· + ·.size) n = n + (flatB bs).length
  | [], n => by simp [flatB]
  | b :: r, n => by
    rw [List.foldl_cons, fold_size r]
    simp [flatB, Nat.add_assoc]
theorem r_bjoin {K : PySem.W.Frag} {p : Addr} {bs : List (Array UInt8)} {H : Hp} {Q : VK} (hp : H p = some (.lst (bs.map V.byt))) (hz : (flatB bs).length ≤ 16777216) (h : Q (.byt (flatB bs).toArray) H) : rBjoin K (.byt #[]) [.ref p] H Q := by
  have e : Builtin.Bytes.joined #[] bs = (flatB bs).toArray := by
    apply Array.ext'
    rw [joined_flat]
  refine ⟨#[], p, bs, rfl, rfl, SqL.of hp, ?_, ?_, ?_⟩
  · rw [← Array.foldl_toList, fold_size]
    unfold Builtin.Bytes.tooLong
    rw [sizeLine_eq]
    exact decide_eq_false (by simp; omega)
  · rw [e, sizeLine_eq, List.size_toArray]
    exact hz
  · rw [e]
    exact h
/-- what a row of pieces says from the place e on -/
def fillL (z e : Int) : List (Int × Array UInt8) → List UInt8
  | [] => List.replicate (z - e).toNat 0
  | s :: r => List.replicate (s.1 - e).toNat 0 ++ (s.2.toList ++ fillL z (s.1 + s.2.size) r)
def spContF (C : Addr) : Sp := fun vs H Q _ => ∃ (a dx : Addr) (fs : List (Str × V)) (y : Array UInt8), vs = [.ref a] ∧ H a = some (.ins C dx fs) ∧ fs.lookup (Str.ofString "data") = some (.byt y) ∧ Q (.byt y) H
def spContS (C : Addr) : Sp := fun vs H Q _ => ∃ (a dx p : Addr) (fs : List (Str × V)) (z : Int) (ps : List (Int × Array UInt8)), vs = [.ref a] ∧ H a = some (.ins C dx fs) ∧ fs.lookup (Str.ofString "size") = some (.int z) ∧ fs.lookup (Str.ofString "pieces") = some (.ref p) ∧
  PcsT H p ps ∧ pcsOk z ps ∧ 0 ≤ z ∧ z ≤ 4096 ∧ ps.length ≤ 50 ∧ ∀ H', Same H H' → Q (.byt (fillL z 0 ps).toArray) H'
def tOrE (a b : TE) : TE := fun σ H Q => a σ H Q ∨ b σ H Q
theorem r_orL {a b : TE} {σ : L2.St} {H : Hp} {Q : VK} (h : a σ H Q) : tOrE a b σ H Q := .inl h
theorem r_orR {a b : TE} {σ : L2.St} {H : Hp} {Q : VK} (h : b σ H Q) : tOrE a b σ H Q := .inr h
theorem pe_or2 {X : Cx} {e : Expr} {a b : TE} (h1 : PE X e a) (h2 : PE X e b) : PE X e (tOrE a b) :=
  ⟨fun pins s σ H Q I h => h.elim (h1.run pins s σ H Q I) (h2.run pins s σ H Q I)⟩
section
variable {P : Program} {w : World} {K : PySem.W.Frag} {mg : Str → Option Value} {base : Heap}
theorem ok_contF {f C : Addr} {fd : FuncData} {k : Nat} (F : Fun K "content" "File.content" s_File_content f fd) (hc : Cls K C) (a1 : NoAttr K C "data") : FnOk P w K mg base CX0 (k + 2) f fd ["self"] (spContF C) := by
  refine F.ok sc_File_content (fun vs H Q E h => ?_) (fun cdv A outer s H vs Q E hr h => ?_)
  · obtain ⟨a, dx, fs, n, rfl, _⟩ := h
    rfl
  · obtain ⟨a, dx, fs, y, rfl, ha, hy, q⟩ := h
    have hu := hu_of hr
    have nd := sc_File_content.nd
    refine ⟨_, (pss_one (ps_ret (pe_fld (pv 0) rfl))), ?_⟩
    walk_at "rd"
    exact r_fldE ha hc a1 hy q
theorem ok_contS {f C : Addr} {fd : FuncData} {k : Nat} (F : Fun K "content" "Sparse.content" s_Sparse_content f fd) (hc : Cls K C) (a1 : NoAttr K C "size") (a2 : NoAttr K C "pieces") (m1 : mg "bytes" = none) (m2 : mg "len" = none) : FnOk P w K mg base CX0 (k + 2) f fd ["self"] (spContS C) := by
  refine F.ok sc_Sparse_content (fun vs H Q E h => ?_) (fun cdv A outer s H vs Q E hr h => ?_)
  · obtain ⟨a, dx, p, fs, z, ps, rfl, _⟩ := h
    rfl
  · obtain ⟨a, dx, p, fs, z, ps, rfl, ha, hz, hps, ⟨as, hp, hpd⟩, hok, z0, z1, hn, q⟩ := h
    have hu := hu_of hr
    have nd := sc_Sparse_content.nd
    refine ⟨_, (pss_cons (ps_set (i := 1) nd rfl (Or.inl rfl) (pe_lst pa_nil))
      (pss_cons (ps_set (i := 2) nd rfl (Or.inl rfl) pe_int)
      (pss_cons (ps_for PassesOwn.never rfl (pi_tup (pe_fld (pv 0) rfl)) (pg_tupK K (pg_tup rfl (pgs_cons (pg_name (i := 3) nd rfl (Or.inl rfl)) (pgs_cons (pg_name (i := 4) nd rfl (Or.inl rfl)) pgs_nil))))
        (pss_cons (ps_expr (pe_bm PySem.F.plainAttrs_list PySem.F.slot_list_append PySem.F.type_list_append mt_append (pv 1) (pa_cons (pe_callTy call_bytesN (by rfl) (by assumption) (by decide +kernel) (pa_cons (pe_op op_sub (pv 3) (pv 2)) pa_nil)) pa_nil)))
      (pss_cons (ps_expr (pe_bm PySem.F.plainAttrs_list PySem.F.slot_list_append PySem.F.type_list_append mt_append (pv 1) (pa_cons (pv 4) pa_nil)))
      (pss_one (ps_set (i := 2) nd rfl (Or.inl rfl) (pe_op op_add (pv 3) (pe_callB call_rLenY (by rfl) (by assumption) (by decide +kernel) (pa_cons (pv 4) pa_nil))))))))
      (pss_cons (ps_expr (pe_bm PySem.F.plainAttrs_list PySem.F.slot_list_append PySem.F.type_list_append mt_append (pv 1) (pa_cons (pe_callTy call_bytesN (by rfl) (by assumption) (by decide +kernel) (pa_cons (pe_op op_sub (pe_fld (pv 0) rfl) (pv 2)) pa_nil)) pa_nil)))
      (pss_one (ps_ret (pe_bmB PySem.W.FB.plainAttrs_bytes R59.slot_bjoin R59.type_bjoin mt_bjoin pe_byt (pa_cons (pv 1) pa_nil)))))))), ?_⟩
    walk_at "rd"
    refine r_fldE (upd_old (by assumption) ha) hc a2 hps ?_
    walk_at "rd"
    rename_i L hL
    have lenA : as.length = ps.length := hpd.length
    have e0 := same_new (o := .lst []) hL
    refine for_it (walk_tup (xs := as.map V.ref)) (fun i σ H' => ∃ (e : Int) (bs : List (Array UInt8)) (v3 v4 : Option V), σ = [some (.ref a), some (.ref L), some (.int e), v3, v4] ∧ Same H H' ∧ H' L = some (.lst (bs.map V.byt)) ∧ 0 ≤ e ∧ e ≤ z ∧ ((flatB bs).length : Int) = e ∧ bs.length = 2 * i ∧
      flatB bs ++ fillL z e (ps.drop i) = fillL z 0 ps ∧ (∃ l, e ≤ l ∧ spansOk z l ((ps.drop i).map fun s => (s.1, (s.2.size : Int))))) ?_ (fun i σ H' _ ⟨_, _, _, _, _, e, _⟩ => SqT.of (e _ _ hp)) ?_ ?_
    · exact ⟨0, [], _, _, rfl, e0, upd_same, Int.le_refl 0, z0, rfl, rfl, rfl, 0, Int.le_refl 0, hok⟩
    · rintro i x σ Hc H' hi ⟨e, bs, v3, v4, rfl, es, hl, h0, hez, hfl, hbl, hfi, l, hel, hsp⟩ ⟨rfl, hx⟩
      rw [List.getElem?_map] at hx
      obtain ⟨qa, hqa, rfl⟩ : ∃ qa, as[i]? = some qa ∧ V.ref qa = x := by
        cases e : as[i]? with
        | none => rw [e] at hx; cases hx
        | some qa => rw [e] at hx; exact ⟨qa, rfl, Option.some.inj hx⟩
      obtain ⟨s, hsi, hqt⟩ := paired_at hpd hqa
      have hq' := es _ _ hqt
      have hdrop : ps.drop i = s :: ps.drop (i + 1) := by
        obtain ⟨hlt, hge⟩ := List.getElem?_eq_some_iff.mp hsi
        rw [← hge]
        exact List.drop_eq_getElem_cons hlt
      have hi50 : i < 50 := by
        obtain ⟨hlt, _⟩ := List.getElem?_eq_some_iff.mp hsi
        omega
      rw [hdrop] at hsp hfi
      obtain ⟨g1, g2, g3, g4⟩ := hsp
      have g1 : e ≤ s.1 := Int.le_trans hel g1
      have g3 : s.1 + (s.2.size : Int) ≤ z := g3
      have hy : s.2.size ≤ 100000 := by omega
      walk_at "rd"
      refine r_bytesN (by omega) (by omega) ?_
      walk_at "rd"
      refine r_append hl (by rw [List.length_map, hbl]; exact Nat.lt_of_lt_of_le (by omega : 2 * i < 100) (by decide)) ?_
      walk_at "rd"
      refine r_append upd_same (by rw [List.length_append, List.length_map, hbl]; exact Nat.lt_of_lt_of_le (by simp; omega : _ < 200) (by decide)) ?_
      walk_at "rd"
      refine ⟨s.1 + s.2.size, bs ++ [Array.replicate (s.1 - e).toNat 0, s.2], _, _, rfl, ?_, ?_, by omega, g3, ?_, ?_, ?_, _, by omega, g4⟩
      · intro b o eo
        rw [upd_ne (ne_of_none eo hL), upd_ne (ne_of_none eo hL)]
        exact es _ _ eo
      · rw [upd_same, List.map_append, List.append_assoc]
        rfl
      · unfold flatB at hfl ⊢
        simp only [List.map_append, List.flatten_append, List.length_append, List.map_cons, List.map_nil, List.flatten_cons, List.flatten_nil, Array.length_toList, List.append_nil, Array.size_replicate]
        omega
      · rw [List.length_append, hbl]
        simp
        omega
      · rw [← hfi]
        unfold flatB
        simp [fillL]
    · rintro σ Hc ⟨e, bs, v3, v4, rfl, es, hl, h0, hez, hfl, hbl, hfi, hsp⟩
      rw [List.length_map, lenA, List.drop_length] at hfi
      rw [List.length_map] at hbl
      walk_at "rd"
      refine r_fldE (es _ _ ha) hc a1 hz ?_
      walk_at "rd"
      refine r_bytesN (by omega) (by omega) ?_
      walk_at "rd"
      refine r_append hl (by rw [List.length_map, hbl]; exact Nat.lt_of_lt_of_le (by omega : 2 * as.length < 200) (by decide)) ?_
      walk_at "rd"
      refine r_bmB ?_
      refine ⟨_, rfl, ?_⟩
      walk_at "rd"
      refine r_bjoin (bs := bs ++ [Array.replicate (z - e).toNat 0]) (by rw [upd_same, List.map_append]; rfl) ?_ ?_
      · rw [flatB_snoc, List.length_append, Array.toList_replicate, List.length_replicate]
        omega
      · have hfe : flatB (bs ++ [Array.replicate (z - e).toNat 0]) = fillL z 0 ps := by
          rw [flatB_snoc, ← hfi, Array.toList_replicate]
          rfl
        rw [hfe]
        refine q _ fun b o eo => ?_
        rw [upd_ne (ne_of_none eo hL)]
        exact es _ _ eo
end
abbrev s_thing_of : Stmt := topS 61
abbrev N_thing_of : List Str := ["member"]
theorem sc_thing_of : FnScope N_thing_of ["member"] (defScope s_thing_of) := ⟨rfl, rfl, rfl, by decide +kernel, rfl, by decide +kernel, by decide +kernel⟩
/-! ### the thing of a member -/
def Mem.thg : Mem → Option Thg
  | .file _ b t ns => some (.file (byteArr ns) b t)
  | .sparse _ b t z sp => some (.file (fillL z 0 (sp.map fun s => (s.1, byteArr s.2))).toArray b t)
  | .dir _ b t => some (.dir b t)
  | .sym _ b t g => some (.sym g b t)
  | .lnk .. => none
section
variable {P : Program} {w : World} {K : PySem.W.Frag} {mg : Str → Option Value} {base : Heap}
theorem pcs_ok {z : Int} {sp : List (Int × List Int)} (h : spansOk z 0 (sp.map fun s => (s.1, (s.2.length : Int)))) : pcsOk z (sp.map fun s => (s.1, byteArr s.2)) := by
  unfold pcsOk
  rw [List.map_map]
  have e : (sp.map ((fun s : Int × Array UInt8 => (s.1, (s.2.size : Int))) ∘ fun s => (s.1, byteArr s.2))) = sp.map fun s => (s.1, (s.2.length : Int)) := List.map_congr_left fun s _ => by
    show (s.1, ((byteArr s.2).size : Int)) = _
    rw [show (byteArr s.2).size = s.2.length by simp [byteArr]]
  rw [e]
  exact h
def spThingOf (K : PySem.W.Frag) (c : Cs) : Sp := fun vs H Q _ => ∃ (x : Addr) (m : Mem), vs = [.ref x] ∧ m.Ins c H x ∧ m.Ok ∧ (∀ y, m.thg = some y → ∀ v H', Same H H' → Thg.At K H' v y → Q v H') ∧ (m.thg = none → ∀ H', Same H H' → Q .non H')
theorem ok_thingof {f aM : Addr} {fd : FuncData} {k : Nat} {c : Cs} (F : Fun K "thing_of" "thing_of" s_thing_of f fd) (m1 : mg "isinstance" = none) (M : MF K c aM) (N : KitD K c) (m_D : mg "Directory" = some (.ref c.D)) (m_F : mg "File" = some (.ref c.F)) (m_S : mg "Sparse" = some (.ref c.S)) (m_Y : mg "Symlink" = some (.ref c.Y)) (m_contF : MethT P w K mg base 2 c.F "content" (spContF c.F)) (m_contS : MethT P w K mg base 2 c.S "content" (spContS c.S)) : FnOk P w K mg base CX0 (k + 3) f fd ["member"] (spThingOf K c) := by
  refine F.ok sc_thing_of (fun vs H Q E9 h => ?_) (fun cdv A outer s H vs Q E9 hr h => ?_)
  · obtain ⟨x, m, rfl, _⟩ := h
    rfl
  · obtain ⟨x, m, rfl, hm, hok, q1, q2⟩ := h
    have hu := hu_of hr
    have nd := sc_thing_of.nd
    have ty := Mem.tyM M hm
    refine ⟨_, (pss_cons (ps_if (pt_val (pe_callB (call_isiK1 K) (by rfl) (by assumption) (by decide +kernel) (pa_cons (pv 0) (pa_cons (pe_glob (v := .ref c.D) (by rfl) m_D (by first | exact rfl | exact ⟨_, rfl⟩)) pa_nil))))
        (pss_one (ps_ret (pe_tup (pa_cons pe_str (pa_cons (pe_fldN K (pv 0)) (pa_cons (pe_fldN K (pv 0)) pa_nil))))))
        pss_nil)
      (pss_cons (ps_if (pt_val (pe_callB (call_isiK1 K) (by rfl) (by assumption) (by decide +kernel) (pa_cons (pv 0) (pa_cons (pe_glob (v := .ref c.Y) (by rfl) m_Y (by first | exact rfl | exact ⟨_, rfl⟩)) pa_nil))))
        (pss_one (ps_ret (pe_tup (pa_cons pe_str (pa_cons (pe_fldN K (pv 0)) (pa_cons (pe_fldN K (pv 0)) (pa_cons (pe_fldN K (pv 0)) pa_nil)))))))
        pss_nil)
      (pss_cons (ps_if (pt_val (pe_callB (call_isiK2 K) (by rfl) (by assumption) (by decide +kernel) (pa_cons (pv 0) (pa_cons (pe_tup (pa_cons (pe_glob (v := .ref c.F) (by rfl) m_F (by first | exact rfl | exact ⟨_, rfl⟩)) (pa_cons (pe_glob (v := .ref c.S) (by rfl) m_S (by first | exact rfl | exact ⟨_, rfl⟩)) pa_nil))) pa_nil))))
        (pss_one (ps_ret (pe_tup (pa_cons pe_str (pa_cons (pe_or2 (pe_mt0 m_contF hr (by omega) (pv 0)) (pe_mt0 m_contS hr (by omega) (pv 0))) (pa_cons (pe_fldN K (pv 0)) (pa_cons (pe_fldN K (pv 0)) pa_nil)))))))
        pss_nil)
      (pss_one (ps_ret pe_non))))), ?_⟩
    walk_at "rd"
    refine r_is1 ty (Mem.kitD N m) ?_
    refine ⟨_, rfl, ?_⟩
    cases m with
    | sparse n b t z sp =>
      obtain ⟨dx, p, hx, hp⟩ := id hm
      obtain ⟨_, z0, z1, hn, hsp, _⟩ := hok
      refine r_iteF (r_next ?_)
      walk_at "rd"
      refine r_is1 (r := false) ty M.kt.sy ?_
      walk_at "rd"
      rename_i p9 hp9
      have e1 := same_new (o := HO.tup [V.ref c.F, V.ref c.S]) hp9
      refine r_isT (r := true) (same_tyB e1 ty) upd_same (kit2 M.kt.sf M.kt.ss) ?_
      walk_at "rd"
      refine r_orR (r_meth ?_)
      walk_at "rd"
      refine ⟨x, dx, _, rfl, e1 _ _ hx, rfl, ?_⟩
      refine ⟨x, dx, p, _, z, _, rfl, e1 _ _ hx, rfl, rfl, hp.same e1, pcs_ok hsp, z0, z1, by rw [List.length_map]; exact hn, fun H2 e2 => ?_⟩
      walk_at "rd"
      refine r_fldE (e2 _ _ (e1 _ _ hx)) M.fS.cl M.fS.n2 rfl ?_
      walk_at "rd"
      refine r_fldE (e2 _ _ (e1 _ _ hx)) M.fS.cl M.fS.n3 rfl ?_
      walk_at "rd"
      rename_i p2 hp2
      exact q1 _ rfl _ _ ((e1.trans e2).trans (same_new hp2)) ⟨p2, rfl, SqT.of upd_same⟩
    | dir n b t =>
      obtain ⟨dx, hx⟩ := id hm
      refine r_iteT ?_
      walk_at "rd"
      refine r_fldE hx M.fD.cl M.fD.n2 rfl ?_
      walk_at "rd"
      refine r_fldE hx M.fD.cl M.fD.n3 rfl ?_
      walk_at "rd"
      rename_i p hp
      exact q1 _ rfl _ _ (same_new hp) ⟨p, rfl, SqT.of upd_same⟩
    | sym n b t g =>
      obtain ⟨dx, hx⟩ := id hm
      refine r_iteF (r_next ?_)
      walk_at "rd"
      refine r_is1 (r := true) ty M.kt.yy ?_
      walk_at "rd"
      refine r_fldE hx M.fY.cl M.tY rfl ?_
      walk_at "rd"
      refine r_fldE hx M.fY.cl M.fY.n2 rfl ?_
      walk_at "rd"
      refine r_fldE hx M.fY.cl M.fY.n3 rfl ?_
      walk_at "rd"
      rename_i p hp
      exact q1 _ rfl _ _ (same_new hp) ⟨p, rfl, SqT.of upd_same⟩
    | lnk n b t g =>
      refine r_iteF (r_next ?_)
      walk_at "rd"
      refine r_is1 (r := false) ty M.kt.ly ?_
      walk_at "rd"
      rename_i p hp
      refine r_isT (r := false) (same_tyB (same_new hp) ty) upd_same (kit2 M.kt.lf M.kt.ls) ?_
      walk_at "rd"
      exact q2 rfl _ (same_new hp)
    | file n b t ns =>
      obtain ⟨dx, hx⟩ := id hm
      refine r_iteF (r_next ?_)
      walk_at "rd"
      refine r_is1 (r := false) ty M.kt.fy ?_
      walk_at "rd"
      rename_i p hp
      have e1 := same_new (o := HO.tup [V.ref c.F, V.ref c.S]) hp
      refine r_isT (r := true) (same_tyB e1 ty) upd_same (kit2t M.kt.ff) ?_
      walk_at "rd"
      refine r_orL (r_meth ?_)
      walk_at "rd"
      refine ⟨x, dx, _, rfl, e1 _ _ hx, rfl, ?_⟩
      refine ⟨x, dx, _, _, rfl, e1 _ _ hx, rfl, ?_⟩
      walk_at "rd"
      refine r_fldE (e1 _ _ hx) M.fF.cl M.fF.n2 rfl ?_
      walk_at "rd"
      refine r_fldE (e1 _ _ hx) M.fF.cl M.fF.n3 rfl ?_
      walk_at "rd"
      rename_i p2 hp2
      exact q1 _ rfl _ _ (e1.trans (same_new hp2)) ⟨p2, rfl, SqT.of upd_same⟩
end
abbrev s_Tree_put : Stmt := inClass (topS 60) 3
abbrev N_Tree_put : List Str := ["self", "path", "member", "target", "above", "mark", "thing"]
theorem sc_Tree_put : FnScope N_Tree_put ["self", "path", "member", "target"] (defScope s_Tree_put) := ⟨rfl, rfl, rfl, by decide +kernel, rfl, by decide +kernel, by decide +kernel⟩
/-! ### a member is put -/
def putAb (l : List (Str × Thg)) : List Str → List (Str × Thg)
  | [] => l
  | p :: r => putAb (if (look l p).isSome = true then l else putA l p (.dir 493 0)) r
theorem putAb_snoc : ∀ {a : List Str} {l : List (Str × Thg)} {p : Str}, putAb l (a ++ [p]) = if (look (putAb l a) p).isSome = true then putAb l a else putA (putAb l a) p (.dir 493 0)
  | [], l, p => rfl
  | q :: a, l, p => putAb_snoc (a := a)
theorem putAb_len : ∀ {a : List Str} {l : List (Str × Thg)}, (putAb l a).length ≤ l.length + a.length
  | [], l => Nat.le_refl _
  | q :: a, l => by
    show (putAb (if (look l q).isSome = true then l else putA l q (.dir 493 0)) a).length ≤ _
    have h := putAb_len (a := a) (l := if (look l q).isSome = true then l else putA l q (.dir 493 0))
    have h2 : (if (look l q).isSome = true then l else putA l q (.dir 493 0)).length ≤ l.length + 1 := by
      split
      · omega
      · exact put_len
    rw [List.length_cons]
    omega
def Mem.thg' (m : Mem) (l : List (Str × Thg)) (tg : Str) : Thg := if m.isLnk = true then thingP l tg else m.thg.getD (.lnk "")
def putT (t : Trd) (z : Str) (m : Mem) (tg : Str) : Trd :=
  ⟨putA (putAb t.things (aboveP z)) z (m.thg' (putAb t.things (aboveP z)) tg),
   if (m.thg' (putAb t.things (aboveP z)) tg).kind = "file" then putA t.marks z (if m.isLnk = true then (look t.marks tg).getD (Sum.inl 0) else Sum.inl (t.many + 1)) else dropA t.marks z,
   t.many + 1⟩
theorem drop_none {α : Type} {z : Str} : ∀ {l : List (Str × α)}, look l z = none → dropA l z = l
  | [], _ => rfl
  | (y, x) :: l, h => by
    rw [look_cons] at h
    by_cases e : y = z
    · rw [if_pos e] at h
      cases h
    · rw [if_neg e] at h
      unfold dropA
      rw [List.filter_cons_of_pos (by simp [e])]
      congr 1
      exact drop_none h
theorem putAb_look {x : Thg} {p : Str} : ∀ {a : List Str} {l : List (Str × Thg)}, look l p = some x → look (putAb l a) p = some x
  | [], l, h => h
  | q :: a, l, h => by
    show look (putAb (if (look l q).isSome = true then l else putA l q (.dir 493 0)) a) p = some x
    refine putAb_look ?_
    split
    · exact h
    · rename_i hq
      rw [look_put]
      by_cases e : p = q
      · subst e
        rw [h] at hq
        exact absurd rfl hq
      · rw [if_neg e]
        exact h
theorem Mem.ob {c : Cs} {H : Hp} {y : Addr} {m : Mem} (h : m.Ins c H y) : ∃ C dx fs, H y = some (.ins C dx fs) := by
  cases m with
  | file n b t ns => obtain ⟨dx, hx⟩ := h; exact ⟨_, _, _, hx⟩
  | sparse n b t z sp => obtain ⟨dx, p, hx, _⟩ := h; exact ⟨_, _, _, hx⟩
  | dir n b t => obtain ⟨dx, hx⟩ := h; exact ⟨_, _, _, hx⟩
  | sym n b t g => obtain ⟨dx, hx⟩ := h; exact ⟨_, _, _, hx⟩
  | lnk n b t g => obtain ⟨dx, hx⟩ := h; exact ⟨_, _, _, hx⟩
theorem PcsT.tk {H H' : Hp} {p : Addr} {ps : List (Int × Array UInt8)} (e : TK H H') (h : PcsT H p ps) : PcsT H' p ps := by
  obtain ⟨as, h1, h2⟩ := h
  exact ⟨as, e.1 _ _ h1, Paired.mapP h2 fun _ _ y => e.1 _ _ y⟩
theorem Mem.keepN {c : Cs} {H H' : Hp} {y : Addr} {m : Mem} (tk : TK H H') (k : ∀ o, H y = some o → H' y = some o) (h : m.Ins c H y) : m.Ins c H' y := by
  cases m with
  | file n b t ns => obtain ⟨dx, hx⟩ := h; exact ⟨dx, k _ hx⟩
  | sparse n b t z sp => obtain ⟨dx, p, hx, hp⟩ := h; exact ⟨dx, p, k _ hx, hp.tk tk⟩
  | dir n b t => obtain ⟨dx, hx⟩ := h; exact ⟨dx, k _ hx⟩
  | sym n b t g => obtain ⟨dx, hx⟩ := h; exact ⟨dx, k _ hx⟩
  | lnk n b t g => obtain ⟨dx, hx⟩ := h; exact ⟨dx, k _ hx⟩
theorem Mem.lnkN {m : Mem} {y9 : Thg} (h : m.thg = some y9) : m.isLnk = false := by
  cases m <;> first | rfl | cases h
theorem Mem.lnkY {m : Mem} (h : m.thg = none) : m.isLnk = true := by
  cases m with
  | file n b t ns => cases h
  | sparse n b t z sp => cases h
  | dir n b t => cases h
  | sym n b t g => cases h
  | lnk n b t g => rfl
def pIf (K : PySem.W.Frag) (c : Cs) : TS := tIfS (tB (tCB (rIsi K) (tCons (tVar 2) (tCons (tC (V.ref c.L)) tNil)))) (tSeq (tAsg (tDGet (tFld K (tVar 0) (Str.ofString "marks")) (tVar 3)) (gName 5)) (tAsg (tDGet (tFld K (tVar 0) (Str.ofString "things")) (tVar 3)) (gName 6))) tNext
def pTail (K : PySem.W.Frag) : TS := tSeq (sDPut (tFld K (tVar 0) (Str.ofString "things")) (tVar 1) (tVar 6)) (tIfS (tTest (tOp rEq (tOp (rIxT K) (tVar 6) (tC (V.int 0))) (tC (V.str (Str.ofString "file"))))) (sDPut (tFld K (tVar 0) (Str.ofString "marks")) (tVar 1) (tVar 5)) (tIfS (tB (tDIn (tVar 1) (tFld K (tVar 0) (Str.ofString "marks")))) (sDDel (tFld K (tVar 0) (Str.ofString "marks")) (tVar 1)) tNext))
theorem ok_pTail {K : PySem.W.Frag} {D9 : Ends} {H : Hp} {C x dx D M : Addr} {z : Str} {vy vt v4 : Option V} {v : V} {y9 : Thg} {mk : Key} {ps qs : List (Key × V)} {t : Trd} (hc : TrC K C) (g : TrIn K C H x dx D M ps qs t) (hv : Thg.At K H v y9) (lp : ps.length ≤ 3000) (lq : qs.length ≤ 3000)
    (k : ∀ ps' qs' H', (∀ b o, b ≠ D → b ≠ M → H b = some o → H' b = some o) → TrIn K C H' x dx D M ps' qs' ⟨putA t.things z y9, if y9.kind = "file" then putA t.marks z mk else dropA t.marks z, t.many⟩ → D9.nx [some (.ref x), some (.str z), vy, vt, v4, some (kV mk), some v] H') :
    pTail K D9 [some (.ref x), some (.str z), vy, vt, v4, some (kV mk), some v] H := by
  have Dx : D ≠ x := fun e => by have := g.d; rw [e, g.ob] at this; cases this
  have Mx : M ≠ x := fun e => by have := g.m; rw [e, g.ob] at this; cases this
  have tkd := tk_dK (o := .dK (putK ps (Sum.inr z) v)) g.d
  have gx1 : upd H D (.dK (putK ps (Sum.inr z) v)) x = some (.ins C dx (trF D M t.many)) := by rw [upd_ne Dx.symm]; exact g.ob
  have gM1 : upd H D (.dK (putK ps (Sum.inr z) v)) M = some (.dK qs) := by rw [upd_ne g.ne.symm]; exact g.m
  have pd1 : TabR (Thg.At K (upd H D (.dK (putK ps (Sum.inr z) v)))) (putK ps (Sum.inr z) v) (putA t.things z y9) := (g.pd.mono fun _ _ y => y.tk tkd).put (hv.tk tkd)
  obtain ⟨tt, rfl, ht⟩ := hv.tk tkd
  obtain ⟨r, hr⟩ := y9.vals0
  rw [hr] at ht
  unfold pTail
  walk_at "rd"
  refine r_fldE g.ob hc.cl hc.things rfl ?_
  walk_at "rd"
  refine ⟨D, _, rfl, DPut.k (k := Sum.inr z) g.d (Nat.lt_of_le_of_lt lp (by decide)), ?_⟩
  walk_at "rd"
  refine r_ixT (i := 0) (v := .str y9.kind) ht (atI_nat (j := 0) rfl) ?_
  walk_at "rd"
  rw [dec_strV]
  refine r_iteD (fun hk => ?_) (fun hk => ?_)
  · walk_at "rd"
    refine r_fldE gx1 hc.cl hc.marks rfl ?_
    walk_at "rd"
    refine ⟨M, _, rfl, DPut.k (k := Sum.inr z) gM1 (Nat.lt_of_le_of_lt lq (by decide)), ?_⟩
    have tkm := tk_dK (o := .dK (putK qs (Sum.inr z) (kV mk))) gM1
    refine k _ _ _ (fun b o n1 n2 h => by rw [upd_ne n2, upd_ne n1]; exact h) ⟨by rw [upd_ne Mx.symm]; exact gx1, by rw [upd_ne g.ne]; exact upd_same, pd1.mono fun _ _ y => y.tk tkm, upd_same, ?_, g.ne⟩
    show TabR _ _ (if y9.kind = "file" then putA t.marks z mk else dropA t.marks z)
    rw [if_pos hk]
    exact g.pm.put rfl
  · walk_at "rd"
    refine r_fldE gx1 hc.cl hc.marks rfl ?_
    refine ⟨M, valV qs (Sum.inr z), rfl, .inl ⟨qs, Sum.inr z, .inl gM1, rfl, rfl⟩, ?_⟩
    refine ⟨_, rfl, ?_⟩
    rcases g.pm.get (z := z) with ⟨k1, k2⟩ | ⟨w, y, k1, k2, _⟩
    · rw [k1]
      refine r_iteF (r_next ?_)
      refine k _ _ _ (fun b o n1 n2 h => by rw [upd_ne n1]; exact h) ⟨gx1, upd_same, pd1, gM1, ?_, g.ne⟩
      show TabR _ _ (if y9.kind = "file" then putA t.marks z mk else dropA t.marks z)
      rw [if_neg hk, drop_none k2]
      exact g.pm
    · rw [k1]
      refine r_iteT ?_
      walk_at "rd"
      refine r_fldE gx1 hc.cl hc.marks rfl ?_
      walk_at "rd"
      have tkm := tk_dK (o := .dK (dropK qs (Sum.inr z))) gM1
      refine ⟨M, qs, Sum.inr z, rfl, gM1, rfl, by rw [k1]; rfl, ?_⟩
      refine k _ _ _ (fun b o n1 n2 h => by rw [upd_ne n2, upd_ne n1]; exact h) ⟨by rw [upd_ne Mx.symm]; exact gx1, by rw [upd_ne g.ne]; exact upd_same, pd1.mono fun _ _ y => y.tk tkm, upd_same, ?_, g.ne⟩
      show TabR _ _ (if y9.kind = "file" then putA t.marks z mk else dropA t.marks z)
      rw [if_neg hk]
      exact g.pm.drop
section
variable {P : Program} {w : World} {K : PySem.W.Frag} {mg : Str → Option Value} {base : Heap}
def spPut (K : PySem.W.Frag) (C : Addr) (c : Cs) : Sp := fun vs H Q _ => ∃ (x y dx D M : Addr) (z tg : Str) (t : Trd) (m : Mem) (ps qs : List (Key × V)), vs = [.ref x, .str z, .ref y, .str tg] ∧ TrIn K C H x dx D M ps qs t ∧ x ≠ y ∧ m.Ins c H y ∧ m.Ok ∧ z.length ≤ 1000 ∧ t.things.length ≤ 1000 ∧ t.marks.length ≤ 1000 ∧
  (m.isLnk = true → kindA t.things tg = "file" ∧ (look t.marks tg).isSome = true) ∧
  ∀ ps' qs' H', (∀ b o, b ≠ x → b ≠ D → b ≠ M → H b = some o → H' b = some o) → TrIn K C H' x dx D M ps' qs' (putT t z m tg) → Q .non H'
theorem ok_put {f C aM aMD : Addr} {fd : FuncData} {k : Nat} {c : Cs} (F : Fun K "put" "Tree.put" s_Tree_put f fd) (hc : TrC K C) (m1 : mg "isinstance" = none) (MM : MF K c aM) (N : KitD K c) (m_L : mg "Link" = some (.ref c.L)) (m_MD : mg "MADE" = some (.ref aMD)) (md : ∀ H, SqT K H aMD [.str "directory", .int 493, .int 0]) (c_above : CalT P w K mg base 2 "paths_above" spAbove) (c_thingof : CalT P w K mg base 3 "thing_of" (spThingOf K c)) : FnOk P w K mg base CX0 (k + 4) f fd ["self", "path", "member", "target"] (spPut K C c) := by
  refine F.ok sc_Tree_put (fun vs H Q E9 h => ?_) (fun cdv A outer s H vs Q E9 hr h => ?_)
  · obtain ⟨x, y, dx, D, M, z, tg, t, m, ps, qs, rfl, _⟩ := h
    rfl
  · obtain ⟨x, y, dx, D, M, z, tg, t, m, ps, qs, rfl, g, nxy, hm, hs, hz, lt, lm, hlk, q⟩ := h
    have hu := hu_of hr
    have nd := sc_Tree_put.nd
    have ty := Mem.tyM MM hm
    refine ⟨_, (pss_cons (ps_for PassesOwn.never rfl (pi_list (pe_cc c_above hr (by omega) (by rfl) (pa_cons (pv 1) pa_nil))) (pg_name (i := 4) nd rfl (Or.inl rfl))
        (pss_one (ps_if (pt_cmp (pc_dnotin hu (pv 4) (pe_fldN K (pv 0))))
        (pss_one (ps_dput hu (pe_fldN K (pv 0)) (pv 4) (pe_glob (v := .ref aMD) (by rfl) m_MD (by first | exact rfl | exact ⟨_, rfl⟩)) rfl))
        pss_nil)))
      (pss_cons (ps_fldaugN K (pv 0) pe_int in_add)
      (pss_cons (ps_set (i := 5) nd rfl (Or.inl rfl) (pe_fldN K (pv 0)))
      (pss_cons (ps_set (i := 6) nd rfl (Or.inl rfl) (pe_cc c_thingof hr (by omega) (by rfl) (pa_cons (pv 2) pa_nil)))
      (pss_cons (ps_if (pt_val (pe_callB (call_isiK1 K) (by rfl) (by assumption) (by decide +kernel) (pa_cons (pv 2) (pa_cons (pe_glob (v := .ref c.L) (by rfl) m_L (by first | exact rfl | exact ⟨_, rfl⟩)) pa_nil))))
        (pss_cons (ps_set (i := 5) nd rfl (Or.inl rfl) (pe_dget hu (pe_fldN K (pv 0)) (pv 3) (fun _ _ => rfl)))
      (pss_one (ps_set (i := 6) nd rfl (Or.inl rfl) (pe_dget hu (pe_fldN K (pv 0)) (pv 3) (fun _ _ => rfl)))))
        pss_nil)
      (pss_cons (ps_dput hu (pe_fldN K (pv 0)) (pv 1) (pv 6) rfl)
      (pss_one (ps_if (pt_cmpR op_eq (pe_ix (ix_tupK K) (pv 6) pe_int (fun _ _ => rfl)) pe_str (nomark _))
        (pss_one (ps_dput hu (pe_fldN K (pv 0)) (pv 1) (pv 5) rfl))
        (pss_one (ps_if (pt_cmp (pc_din hu (pv 1) (pe_fldN K (pv 0))))
        (pss_one (ps_ddel (pe_fldN K (pv 0)) (pv 1)))
        pss_nil)))))))))), ?_⟩
    walk_at "rd"
    refine ⟨z, rfl, hz, fun L H1 hL e1 gL => ?_⟩
    walk_at "rd"
    have hal : (aboveP z).length ≤ 1001 := by
      unfold aboveP
      rw [List.length_map, List.length_range]
      have := PyProof.Rows.split_le z "/"
      omega
    have g1 : TrIn K C H1 x dx D M ps qs t := ⟨e1 _ _ g.ob, e1 _ _ g.d, g.pd.mono fun _ _ y => y.same e1, e1 _ _ g.m, g.pm, g.ne⟩
    have Lx : L ≠ x := (ne_of_none g.ob hL).symm
    have LD : L ≠ D := (ne_of_none g.d hL).symm
    have LM : L ≠ M := (ne_of_none g.m hL).symm
    have Dx : D ≠ x := fun e => by have := g.d; rw [e, g.ob] at this; cases this
    refine for_it (walk_list (xs := (aboveP z).map V.str)) (fun i σ H' => ∃ v4 v5 v6 ps', σ = [some (.ref x), some (.str z), some (.ref y), some (.str tg), v4, v5, v6] ∧ TrIn K C H' x dx D M ps' qs ⟨putAb t.things ((aboveP z).take i), t.marks, t.many⟩ ∧ (∀ b o, b ≠ x → b ≠ D → b ≠ M → H1 b = some o → H' b = some o) ∧ TK H1 H') ?_ (fun i σ H' _ ⟨_, _, _, _, _, _, fr, _⟩ => SqL.of (fr _ _ Lx LD LM gL)) ?_ ?_
    · exact ⟨none, none, none, ps, rfl, g1, fun _ _ _ _ _ h => h, TK.refl _⟩
    · rintro i v σ Hc H' hi ⟨v4, v5, v6, ps', rfl, g', fr, tk'⟩ ⟨rfl, hv⟩
      rw [List.getElem?_map] at hv
      obtain ⟨p, hp, rfl⟩ : ∃ x, (aboveP z)[i]? = some x ∧ V.str x = v := by
        cases e : (aboveP z)[i]? with
        | none => rw [e] at hv; cases hv
        | some x => rw [e] at hv; exact ⟨x, rfl, Option.some.inj hv⟩
      have psl : ps'.length ≤ 2001 := by
        have h1 := putAb_len (a := (aboveP z).take i) (l := t.things)
        have h2 : ((aboveP z).take i).length ≤ 1001 := by rw [List.length_take]; omega
        have h3 := g'.pd.len
        dsimp only at h3
        omega
      have hsn := putAb_snoc (a := (aboveP z).take i) (l := t.things) (p := p)
      rw [← take_snoc hp] at hsn
      walk_at "rd"
      refine r_fldE g'.ob hc.cl hc.things rfl ?_
      refine ⟨D, valV ps' (Sum.inr p), rfl, .inl ⟨ps', Sum.inr p, .inl g'.d, rfl, rfl⟩, ?_⟩
      refine ⟨_, rfl, ?_⟩
      rcases g'.pd.get (z := p) with ⟨k1, k2⟩ | ⟨w, y9, k1, k2, _⟩
      · rw [k1]
        dsimp only at k2
        rw [k2, if_neg (by decide)] at hsn
        refine r_iteT ?_
        walk_at "rd"
        refine r_fldE g'.ob hc.cl hc.things rfl ?_
        walk_at "rd"
        refine ⟨D, _, rfl, DPut.k (k := Sum.inr p) g'.d (Nat.lt_of_le_of_lt psl (by decide)), ?_⟩
        have tkd := tk_dK (o := .dK (putK ps' (Sum.inr p) (.ref aMD))) g'.d
        refine ⟨_, _, _, putK ps' (Sum.inr p) (.ref aMD), rfl, ⟨by rw [upd_ne Dx.symm]; exact g'.ob, upd_same, ?_, by rw [upd_ne g'.ne.symm]; exact g'.m, g'.pm, g'.ne⟩, fun b o n1 n2 n3 h => by rw [upd_ne n2]; exact fr b o n1 n2 n3 h, tk'.trans tkd⟩
        show TabR _ _ (putAb t.things ((aboveP z).take (i + 1)))
        rw [hsn]
        exact (g'.pd.mono fun _ _ y => y.tk tkd).put ⟨aMD, rfl, md _⟩
      · rw [k1]
        dsimp only at k2
        rw [k2, if_pos (show (some y9).isSome = true from rfl)] at hsn
        refine r_iteF (r_next ?_)
        refine ⟨_, _, _, ps', rfl, ⟨g'.ob, g'.d, ?_, g'.m, g'.pm, g'.ne⟩, fr, tk'⟩
        show TabR _ _ (putAb t.things ((aboveP z).take (i + 1)))
        rw [hsn]
        exact g'.pd
    · rintro σ Hc ⟨v4, v5, v6, ps', rfl, g', fr, tk'⟩
      rw [List.length_map, List.take_length] at g'
      walk_at "rd"
      unfold sFldAug
      walk_at "rd"
      refine ⟨x, C, dx, _, _, rfl, g'.ob, hc.cl, hc.many, rfl, ?_⟩
      walk_at "rd"
      refine ⟨t.many, 1, rfl, rfl, ?_⟩
      refine ⟨dx, _, g'.ob, (show 3 < 1000 by decide), ?_⟩
      dsimp only
      rw [show putF (Str.ofString "many") (V.int (t.many + 1)) (trF D M t.many) = trF D M (t.many + 1) from rfl]
      have Mx : M ≠ x := fun e => by have := g.m; rw [e, g.ob] at this; cases this
      have tkx : TK Hc (upd Hc x (.ins C dx (trF D M (t.many + 1)))) := ⟨fun a xs h => by rw [upd_ne (fun e => by rw [e, g'.ob] at h; cases h)]; exact h, fun a o xs h => by rw [upd_ne (fun e => by rw [e, g'.ob] at h; cases h)]; exact h⟩
      have H2 : ∃ H2, H2 = upd Hc x (.ins C dx (trF D M (t.many + 1))) := ⟨_, rfl⟩
      obtain ⟨H2, eH2⟩ := H2
      rw [← eH2]
      rw [← eH2] at tkx
      have gx2 : H2 x = some (.ins C dx (trF D M (t.many + 1))) := by rw [eH2]; exact upd_same
      have gD2 : H2 D = some (.dK ps') := by rw [eH2, upd_ne Dx]; exact g'.d
      have gM2 : H2 M = some (.dK qs) := by rw [eH2, upd_ne Mx]; exact g'.m
      have pd2 := g'.pd.mono fun _ _ y => y.tk tkx
      walk_at "rd"
      refine r_fldE gx2 hc.cl hc.many rfl ?_
      walk_at "rd"
      obtain ⟨Cy, dy, fy, hy⟩ := Mem.ob hm
      have yD : y ≠ D := fun e => by rw [e, g.d] at hy; cases hy
      have yM : y ≠ M := fun e => by rw [e, g.m] at hy; cases hy
      have hm2 : m.Ins c H2 y := Mem.keepN ((Same.tk e1).trans (tk'.trans tkx)) (fun o h => by rw [eH2, upd_ne nxy.symm]; exact fr _ _ nxy.symm yD yM (e1 _ _ h)) hm
      have g2 : TrIn K C H2 x dx D M ps' qs ⟨putAb t.things (aboveP z), t.marks, t.many + 1⟩ := ⟨gx2, gD2, pd2, gM2, g'.pm, g.ne⟩
      have psl : ps'.length ≤ 3000 := by
        have h1 := putAb_len (a := aboveP z) (l := t.things)
        have h3 := g'.pd.len
        dsimp only at h3
        omega
      have qsl : qs.length ≤ 3000 := by rw [g.pm.len]; omega
      have fr2 : ∀ b o, b ≠ x → b ≠ D → b ≠ M → H b = some o → H2 b = some o := fun b o n1 n2 n3 h => by rw [eH2, upd_ne n1]; exact fr b o n1 n2 n3 (e1 _ _ h)
      refine ⟨y, m, rfl, hm2, hs, fun y9 hy9 v H3 e3 hv => ?_, fun hn H3 e3 => ?_⟩
      · have hl := Mem.lnkN hy9
        have g3 : TrIn K C H3 x dx D M ps' qs ⟨putAb t.things (aboveP z), t.marks, t.many + 1⟩ := ⟨e3 _ _ gx2, e3 _ _ gD2, pd2.mono fun _ _ y => y.same e3, e3 _ _ gM2, g'.pm, g.ne⟩
        refine r_gname ?_
        refine (show tSeq (pIf K c) (pTail K) _ _ H3 from ?_)
        refine r_seq ?_
        unfold pIf
        walk_at "rd"
        refine r_is1 (Mem.tyM MM (Mem.Ins.same e3 hm2)) (Mem.kitL MM N m) ?_
        refine ⟨_, rfl, ?_⟩
        rw [hl]
        refine r_iteF (r_next ?_)
        refine (show pTail K _ _ _ from ok_pTail (mk := Sum.inl (t.many + 1)) hc g3 hv psl qsl fun ps2 qs2 H4 fr4 g4 => ?_)
        refine q ps2 qs2 H4 (fun b o n1 n2 n3 h => fr4 b o n2 n3 (e3 _ _ (fr2 b o n1 n2 n3 h))) ?_
        have e : putT t z m tg = ⟨putA (putAb t.things (aboveP z)) z y9, if y9.kind = "file" then putA t.marks z (Sum.inl (t.many + 1)) else dropA t.marks z, t.many + 1⟩ := by
          unfold putT Mem.thg'
          rw [hl, hy9]
          rfl
        rw [e]
        exact g4
      · have hl := Mem.lnkY hn
        obtain ⟨hk1, hk2⟩ := hlk hl
        cases lm9 : look t.marks tg with
        | none => rw [lm9] at hk2; cases hk2
        | some mk =>
        cases lt9 : look t.things tg with
        | none =>
          unfold kindA at hk1
          rw [lt9] at hk1
          exact absurd hk1 (by decide +kernel)
        | some yt =>
        have lt8 := putAb_look (a := aboveP z) lt9
        have g3 : TrIn K C H3 x dx D M ps' qs ⟨putAb t.things (aboveP z), t.marks, t.many + 1⟩ := ⟨e3 _ _ gx2, e3 _ _ gD2, pd2.mono fun _ _ y => y.same e3, e3 _ _ gM2, g'.pm, g.ne⟩
        rcases g3.pd.get (z := tg) with ⟨_, k2⟩ | ⟨v, y8, k1, k2, k3⟩
        · dsimp only at k2
          rw [lt8] at k2
          cases k2
        dsimp only at k2
        rw [lt8] at k2
        cases k2
        rcases g3.pm.get (z := tg) with ⟨_, j2⟩ | ⟨u, mk', j1, j2, rfl⟩
        · dsimp only at j2
          rw [lm9] at j2
          cases j2
        dsimp only at j2
        rw [lm9] at j2
        cases j2
        refine r_gname ?_
        refine (show tSeq (pIf K c) (pTail K) _ _ H3 from ?_)
        refine r_seq ?_
        unfold pIf
        walk_at "rd"
        refine r_is1 (Mem.tyM MM (Mem.Ins.same e3 hm2)) (Mem.kitL MM N m) ?_
        refine ⟨_, rfl, ?_⟩
        rw [hl]
        refine r_iteT ?_
        walk_at "rd"
        refine r_fldE g3.ob hc.cl hc.marks rfl ?_
        walk_at "rd"
        refine ⟨M, kV mk, rfl, .inl ⟨qs, Sum.inr tg, .inl g3.m, rfl, j1.symm⟩, ?_⟩
        walk_at "rd"
        refine r_fldE g3.ob hc.cl hc.things rfl ?_
        walk_at "rd"
        refine ⟨D, v, rfl, .inl ⟨ps', Sum.inr tg, .inl g3.d, rfl, k1.symm⟩, ?_⟩
        refine r_gname ?_
        refine (show pTail K _ _ _ from ok_pTail (mk := mk) hc g3 k3 psl qsl fun ps2 qs2 H4 fr4 g4 => ?_)
        refine q ps2 qs2 H4 (fun b o n1 n2 n3 h => fr4 b o n2 n3 (e3 _ _ (fr2 b o n1 n2 n3 h))) ?_
        have e : putT t z m tg = ⟨putA (putAb t.things (aboveP z)) z yt, if yt.kind = "file" then putA t.marks z mk else dropA t.marks z, t.many + 1⟩ := by
          unfold putT Mem.thg' thingP
          rw [hl, if_pos rfl, if_pos rfl, lt8, lm9]
          rfl
        rw [e]
        exact g4
end
abbrev s_refusal : Stmt := topS 65
abbrev N_refusal : List Str := ["tree", "member", "above"]
theorem sc_refusal : FnScope N_refusal ["tree", "member"] (defScope s_refusal) := ⟨rfl, rfl, rfl, by decide +kernel, rfl, by decide +kernel, by decide +kernel⟩
/-! ### unpacking -/
def Mem.kd : Mem → Str
  | .file .. => "file"
  | .sparse .. => "sparse"
  | .dir .. => "directory"
  | .sym .. => "symlink"
  | .lnk .. => "link"
def Mem.bits : Mem → Int
  | .file _ b _ _ => b
  | .sparse _ b _ _ _ => b
  | .dir _ b _ => b
  | .sym _ b _ _ => b
  | .lnk _ b _ _ => b
def Mem.tm : Mem → Int
  | .file _ _ t _ => t
  | .sparse _ _ t _ _ => t
  | .dir _ _ t => t
  | .sym _ _ t _ => t
  | .lnk _ _ t _ => t
theorem Mem.has {K : PySem.W.Frag} {c : Cs} {aM : Addr} {H : Hp} {x : Addr} {m : Mem} (M : MF K c aM) (h : m.Ins c H x) : ∃ C dx fs, H x = some (.ins C dx fs) ∧ CF K C aM m.kd ∧ fs.lookup ("KIND" : Str) = none ∧ fs.lookup ("name" : Str) = some (.str m.nm) ∧ fs.lookup ("mode" : Str) = some (.int m.bits) ∧ fs.lookup ("time" : Str) = some (.int m.tm) := by
  cases m with
  | file n b t ns => obtain ⟨dx, hx⟩ := h; exact ⟨_, dx, _, hx, M.fF, rfl, rfl, rfl, rfl⟩
  | sparse n b t z sp => obtain ⟨dx, p, hx, _⟩ := h; exact ⟨_, dx, _, hx, M.fS, rfl, rfl, rfl, rfl⟩
  | dir n b t => obtain ⟨dx, hx⟩ := h; exact ⟨_, dx, _, hx, M.fD, rfl, rfl, rfl, rfl⟩
  | sym n b t g => obtain ⟨dx, hx⟩ := h; exact ⟨_, dx, _, hx, M.fY, rfl, rfl, rfl, rfl⟩
  | lnk n b t g => obtain ⟨dx, hx⟩ := h; exact ⟨_, dx, _, hx, M.fL, rfl, rfl, rfl, rfl⟩
section
variable {P : Program} {w : World} {K : PySem.W.Frag} {mg : Str → Option Value} {base : Heap}
/-- the member may be unpacked there -/
structure FitM (t : Trd) (m : Mem) : Prop where
  path : pathB m.nm = true
  par : ∀ p ∈ aboveP m.nm, kindA t.things p = "" ∨ kindA t.things p = "directory"
  ref : refP t.things m.nm m m.tgt = ""
def spRefusal (K : PySem.W.Frag) (C : Addr) (c : Cs) : Sp := fun vs H Q _ => ∃ (x y : Addr) (t : Trd) (m : Mem), vs = [.ref x, .ref y] ∧ TrAt K C H x t ∧ m.Ins c H y ∧ FitM t m ∧ ∀ H', Same H H' → Q (.str "") H'
theorem ok_refusal {f C aM : Addr} {fd : FuncData} {k : Nat} {c : Cs} (F : Fun K "refusal" "refusal" s_refusal f fd) (hc : TrC K C) (M : MF K c aM) (c_is_path : CalT P w K mg base 3 "is_path" spIsPath) (c_above : CalT P w K mg base 2 "paths_above" spAbove) (c_kind_at : CalT P w K mg base 2 "kind_at" (spKindAt K)) (c_target : CalT P w K mg base 2 "target_of" (spTarget c)) (mA_refat : MetA P w K mg base 3 C "refusal_at" ["self", "path", "member", "target"] (spRefAt K C c)) : FnOk P w K mg base CX0 (k + 4) f fd ["tree", "member"] (spRefusal K C c) := by
  refine F.ok sc_refusal (fun vs H Q E9 h => ?_) (fun cdv A outer s H vs Q E9 hr h => ?_)
  · obtain ⟨x, y, t, m, rfl, _⟩ := h
    rfl
  · obtain ⟨x, y, t, m, rfl, ⟨dx, D, Mk, ps, qs, g⟩, hm, fit, q⟩ := h
    have hu := hu_of hr
    have nd := sc_refusal.nd
    obtain ⟨Cy, dy, fy, hy, hC, _, f1, _, _⟩ := Mem.has M hm
    have hzl := pathB_len fit.path
    refine ⟨_, (pss_cons (ps_if (pt_not (pt_val (pe_cc c_is_path hr (by omega) (by rfl) (pa_cons (pe_fldN K (pv 1)) pa_nil))))
        (pss_one (ps_ret pe_str))
        pss_nil)
      (pss_cons (ps_for PassesOwn.never rfl (pi_list (pe_cc c_above hr (by omega) (by rfl) (pa_cons (pe_fldN K (pv 1)) pa_nil))) (pg_name (i := 2) nd rfl (Or.inl rfl))
        (pss_one (ps_if (pt_cmpR (op_notInK K) (pe_cc c_kind_at hr (by omega) (by rfl) (pa_cons (pv 2) (pa_cons (pe_fldN K (pv 0)) pa_nil))) (pe_tup (pa_cons pe_str (pa_cons pe_str pa_nil))) (by rfl))
        (pss_one (ps_ret pe_str))
        pss_nil)))
      (pss_one (ps_ret (pe_mtA mA_refat hr (by omega) (pv 0) (pa_cons (pe_fldN K (pv 1)) (pa_cons (pv 1) (pa_cons (pe_cc c_target hr (by omega) (by rfl) (pa_cons (pv 1) pa_nil)) pa_nil)))))))), ?_⟩
    walk_at "rd"
    refine r_fldE hy hC.cl hC.n1 f1 ?_
    walk_at "rd"
    refine ⟨m.nm, rfl, hzl, fun H1 e1 => ?_⟩
    rw [fit.path]
    walk_at "rd"
    refine r_fldE (e1 _ _ hy) hC.cl hC.n1 f1 ?_
    walk_at "rd"
    refine ⟨m.nm, rfl, hzl, fun L H2 hL e2 gL => ?_⟩
    walk_at "rd"
    have E2 := e1.trans e2
    have hTh : ThR K H2 D t.things := ThR.same E2 ⟨ps, .inl g.d, g.pd⟩
    have tr2 : ∀ H', Same H2 H' → TrAt K C H' x t := fun H' e => ⟨dx, D, Mk, ps, qs, (E2.trans e) _ _ g.ob, (E2.trans e) _ _ g.d, g.pd.mono fun _ _ y => y.same (E2.trans e), (E2.trans e) _ _ g.m, g.pm, g.ne⟩
    refine for_it (walk_list (xs := (aboveP m.nm).map V.str)) (fun i σ H' => ∃ v2, σ = [some (.ref x), some (.ref y), v2] ∧ Same H2 H') ⟨none, rfl, Same.refl _⟩ (fun i σ H' _ ⟨_, _, e⟩ => SqL.of (e _ _ gL)) ?_ ?_
    · rintro i v σ Hc H' hi ⟨v2, rfl, e⟩ ⟨rfl, hv⟩
      rw [List.getElem?_map] at hv
      obtain ⟨p, hp, rfl⟩ : ∃ x, (aboveP m.nm)[i]? = some x ∧ V.str x = v := by
        cases e : (aboveP m.nm)[i]? with
        | none => rw [e] at hv; cases hv
        | some x => rw [e] at hv; exact ⟨x, rfl, Option.some.inj hv⟩
      have hpk := fit.par p (List.mem_of_getElem? hp)
      walk_at "rd"
      refine r_fldE (E2.trans e _ _ g.ob) hc.cl hc.things rfl ?_
      walk_at "rd"
      refine ⟨p, D, t.things, rfl, hTh.same e, ?_⟩
      walk_at "rd"
      rename_i p9 hp9
      refine ⟨p9, [.str "", .str "directory"], rfl, .inr (SqT.of upd_same), rfl, rfl, ?_⟩
      refine ⟨false, ?_, ?_⟩
      · rcases hpk with h | h <;> rw [h] <;> rfl
      · refine r_iteF (r_next ?_)
        exact ⟨_, rfl, e.trans (same_new hp9)⟩
    · rintro σ Hc ⟨v2, rfl, e⟩
      walk_at "rd"
      refine r_meth ?_
      walk_at "rd"
      refine ⟨x, dx, _, rfl, (E2.trans e) _ _ g.ob, rfl, ?_⟩
      walk_at "rd"
      refine r_fldE ((E2.trans e) _ _ hy) hC.cl hC.n1 f1 ?_
      walk_at "rd"
      refine ⟨y, m, rfl, hm.same (E2.trans e), fun H5 e5 => ?_⟩
      refine ⟨x, y, m.nm, m.tgt, t, m, rfl, tr2 H5 (e.trans e5), hm.same ((E2.trans e).trans e5), fun H6 e6 => ?_⟩
      rw [fit.ref]
      exact q _ (((E2.trans e).trans e5).trans e6)
end
abbrev s_unpack : Stmt := topS 64
abbrev N_unpack : List Str := ["tree", "index", "member", "word"]
theorem sc_unpack : FnScope N_unpack ["tree", "index", "member"] (defScope s_unpack) := ⟨rfl, rfl, rfl, by decide +kernel, rfl, by decide +kernel, by decide +kernel⟩
/-! ### a member is unpacked -/
structure Fit2 (t : Trd) (m : Mem) : Prop where
  fit : FitM t m
  ok : m.Ok
  mark : m.isLnk = true → (look t.marks m.tgt).isSome = true
  l1 : t.things.length ≤ 1000
  l2 : t.marks.length ≤ 1000
def putM (t : Trd) (m : Mem) : Trd := putT t m.nm m m.tgt
def FitAll : Trd → List Mem → Prop
  | _, [] => True
  | t, m :: r => Fit2 t m ∧ FitAll (putM t m) r
def putAll (t : Trd) (ms : List Mem) : Trd := ms.foldl putM t
theorem putAll_snoc {t : Trd} {ms : List Mem} {m : Mem} : putAll t (ms ++ [m]) = putM (putAll t ms) m := by
  unfold putAll
  rw [List.foldl_append]
  rfl
theorem fitAll_at : ∀ {ms : List Mem} {t : Trd} {i : Nat} {m : Mem}, FitAll t ms → ms[i]? = some m → Fit2 (putAll t (ms.take i)) m
  | [], _, _, _, _, h => by cases h
  | a :: r, t, 0, m, h, e => by
    cases Option.some.inj e
    exact h.1
  | a :: r, t, i + 1, m, h, e => fitAll_at (ms := r) (t := putM t a) (i := i) h.2 e
theorem refP_lnk {l : List (Str × Thg)} {z tg : Str} {m : Mem} (hl : m.isLnk = true) (h : refP l z m tg = "") : kindA l tg = "file" := by
  have hd : m.isDir = false := by cases m <;> first | rfl | cases hl
  unfold refP at h
  rw [hd, hl, Bool.true_and, if_neg (by decide)] at h
  by_cases h1 : kindA l z = "directory"
  · rw [if_pos h1] at h
    exact absurd h (by decide +kernel)
  · rw [if_neg h1] at h
    cases h2 : decide (kindA l tg = "file") with
    | true => exact of_decide_eq_true h2
    | false =>
      rw [h2, if_pos (by decide)] at h
      exact absurd h (by decide +kernel)
theorem put_keys {α : Type} {l : List (Str × α)} {z : Str} {x : α} : (putA l z x).map (·.1) = if z ∈ l.map (·.1) then l.map (·.1) else l.map (·.1) ++ [z] := by
  unfold putA
  have e : (l.any fun q => decide (q.1 = z)) = decide (z ∈ l.map (·.1)) := by
    rw [Bool.eq_iff_iff, List.any_eq_true, decide_eq_true_iff, List.mem_map]
    exact ⟨fun ⟨q, h1, h2⟩ => ⟨q, h1, of_decide_eq_true h2⟩, fun ⟨q, h1, h2⟩ => ⟨q, h1, decide_eq_true h2⟩⟩
  rw [e]
  by_cases h : z ∈ l.map (·.1)
  · rw [if_pos (decide_eq_true h), if_pos h, List.map_map]
    refine List.map_congr_left fun q _ => ?_
    show (if q.1 = z then (q.1, x) else q).1 = q.1
    split <;> rfl
  · rw [if_neg (by rw [decide_eq_true_iff]; exact h), if_neg h, List.map_append]
    rfl
theorem put_nd {α : Type} {l : List (Str × α)} {z : Str} {x : α} (h : (l.map (·.1)).Nodup) : ((putA l z x).map (·.1)).Nodup := by
  rw [put_keys]
  split
  · exact h
  · rename_i hz
    rw [List.nodup_append]
    exact ⟨h, by simp, fun a ha b hb e => hz (by rw [List.mem_singleton] at hb; rw [← hb, ← e]; exact ha)⟩
theorem putAb_nd : ∀ {a : List Str} {l : List (Str × Thg)}, (l.map (·.1)).Nodup → ((putAb l a).map (·.1)).Nodup
  | [], _, h => h
  | p :: r, l, h => by
    show ((putAb (if (look l p).isSome = true then l else putA l p (.dir 493 0)) r).map (·.1)).Nodup
    refine putAb_nd ?_
    split
    · exact h
    · exact put_nd h
theorem putAll_nd : ∀ {ms : List Mem} {t : Trd}, (t.things.map (·.1)).Nodup → ((putAll t ms).things.map (·.1)).Nodup
  | [], _, h => h
  | m :: r, t, h => putAll_nd (ms := r) (t := putM t m) (put_nd (putAb_nd h))
section
variable {P : Program} {w : World} {K : PySem.W.Frag} {mg : Str → Option Value} {base : Heap}
def spUnpack (K : PySem.W.Frag) (C : Addr) (c : Cs) : Sp := fun vs H Q _ => ∃ (x y dx D M : Addr) (i : Int) (t : Trd) (m : Mem) (ps qs : List (Key × V)), vs = [.ref x, .int i, .ref y] ∧ TrIn K C H x dx D M ps qs t ∧ x ≠ y ∧ m.Ins c H y ∧ Fit2 t m ∧
  ∀ ps' qs' H', (∀ b o, b ≠ x → b ≠ D → b ≠ M → H b = some o → H' b = some o) → TrIn K C H' x dx D M ps' qs' (putM t m) → Q .non H'
theorem ok_unpack {f C aM : Addr} {fd : FuncData} {k : Nat} {c : Cs} (F : Fun K "unpack" "unpack" s_unpack f fd) (hc : TrC K C) (M : MF K c aM) (c_refusal : CalT P w K mg base 4 "refusal" (spRefusal K C c)) (c_target : CalT P w K mg base 2 "target_of" (spTarget c)) (mA_put : MetA P w K mg base 4 C "put" ["self", "path", "member", "target"] (spPut K C c)) : FnOk P w K mg base CX0 (k + 5) f fd ["tree", "index", "member"] (spUnpack K C c) := by
  refine F.ok sc_unpack (fun vs H Q E9 h => ?_) (fun cdv A outer s H vs Q E9 hr h => ?_)
  · obtain ⟨x, y, dx, D, Mk, i, t, m, ps, qs, rfl, _⟩ := h
    rfl
  · obtain ⟨x, y, dx, D, Mk, i, t, m, ps, qs, rfl, g, nxy, hm, fit, q⟩ := h
    have hu := hu_of hr
    have nd := sc_unpack.nd
    have hzl := pathB_len fit.fit.path
    refine ⟨_, (pss_cons (ps_set (i := 3) nd rfl (Or.inl rfl) (pe_cc c_refusal hr (by omega) (by rfl) (pa_cons (pv 0) (pa_cons (pv 2) pa_nil))))
      (pss_cons (ps_if (pt_cmpR op_ne (pv 3) pe_str (nomark _))
        (pss_one ps_never)
        pss_nil)
      (pss_one (ps_expr (pe_mtA mA_put hr (by omega) (pv 0) (pa_cons (pe_fldN K (pv 2)) (pa_cons (pv 2) (pa_cons (pe_cc c_target hr (by omega) (by rfl) (pa_cons (pv 2) pa_nil)) pa_nil)))))))), ?_⟩
    walk_at "rd"
    refine ⟨x, y, t, m, rfl, ⟨dx, D, Mk, ps, qs, g⟩, hm, fit.fit, fun H1 e1 => ?_⟩
    obtain ⟨Cy, dy, fy, hy, hC, _, f1, _, _⟩ := Mem.has M hm
    walk_at "rd"
    refine r_meth ?_
    walk_at "rd"
    refine ⟨x, dx, _, rfl, e1 _ _ g.ob, rfl, ?_⟩
    walk_at "rd"
    refine r_fldE (e1 _ _ hy) hC.cl hC.n1 f1 ?_
    walk_at "rd"
    refine ⟨y, m, rfl, hm.same e1, fun H2 e2 => ?_⟩
    have E := e1.trans e2
    refine ⟨x, y, dx, D, Mk, m.nm, m.tgt, t, m, ps, qs, rfl, ⟨E _ _ g.ob, E _ _ g.d, g.pd.mono fun _ _ y => y.same E, E _ _ g.m, g.pm, g.ne⟩, nxy, hm.same E, fit.ok, hzl, fit.l1, fit.l2, fun hl => ⟨refP_lnk hl fit.fit.ref, fit.mark hl⟩, fun ps' qs' H3 fr g3 => ?_⟩
    walk_at "rd"
    exact q ps' qs' H3 (fun b o n1 n2 n3 h => fr b o n1 n2 n3 (E _ _ h)) g3
end
abbrev s_unpacked : Stmt := topS 63
abbrev N_unpacked : List Str := ["house", "members", "tree", "index", "member"]
theorem sc_unpacked : FnScope N_unpacked ["house", "members"] (defScope s_unpacked) := ⟨rfl, rfl, rfl, by decide +kernel, rfl, by decide +kernel, by decide +kernel⟩
/-! ### members are unpacked -/
theorem r_iEnum {K : PySem.W.Frag} {ta : TA} {σ : L2.St} {H : Hp} {R : It → Hp → Prop} (h : ta σ H fun vs H1 => ∃ a xs, vs = [.ref a] ∧ SqL K H1 a xs ∧ R (Ite K a) H1) : iEnum K ta σ H R := h
/-- the tree of a house -/
def trdOf (h : Hs) : Trd := ⟨h.things, h.firsts.map fun q => (q.1, Sum.inr q.2), 0⟩
def MemsAt (c : Cs) (H : Hp) (vs : List V) (ms : List Mem) : Prop := Paired (fun v m => ∃ y, v = V.ref y ∧ Mem.Ins c H y m) vs ms
section
variable {P : Program} {w : World} {K : PySem.W.Frag} {mg : Str → Option Value} {base : Heap}
def spUnpd (K : PySem.W.Frag) (C CH : Addr) (c : Cs) : Sp := fun vs H Q _ => ∃ (y L : Addr) (h : Hs) (xs : List V) (ms : List Mem), vs = [.ref y, .ref L] ∧ HsAt K CH H y h ∧ (h.things.map (·.1)).Nodup ∧ (h.firsts.map (·.1)).Nodup ∧ h.things.length ≤ 1000 ∧ h.firsts.length ≤ 1000 ∧
  SqL K H L xs ∧ MemsAt c H xs ms ∧ FitAll (trdOf h) ms ∧ (putAll (trdOf h) ms).things.length < 64 ∧
  ∀ ys z H', ys.Perm ((putAll (trdOf h) ms).things.map (·.1)) → sortedS ys = true → H z = none → Same H H' → HsNw K CH H H' z (hsOf (putAll (trdOf h) ms).things (putAll (trdOf h) ms).marks ys) → Q (.ref z) H'
theorem ok_unpd {f C CH : Addr} {fd : FuncData} {k : Nat} {c : Cs} (F : Fun K "unpacked" "unpacked" s_unpacked f fd) (m1 : mg "enumerate" = none) (hc : TrC K C) (mk_TreeD : MakS P w K mg base 2 "Tree" C [] (fun vs zs H Q => vs.length = 2 ∧ ∀ E, spTInit K C CH (vs ++ zs) H Q E)) (c_unpack : CalT P w K mg base 5 "unpack" (spUnpack K C c)) (mA_house : MetA P w K mg base 4 C "house" ["self"] (spTHouse K C CH)) : FnOk P w K mg base CX0 (k + 6) f fd ["house", "members"] (spUnpd K C CH c) := by
  refine F.ok sc_unpacked (fun vs H Q E9 h => ?_) (fun cdv A outer s H vs Q E9 hr h => ?_)
  · obtain ⟨y, L, h, xs, ms, rfl, _⟩ := h
    rfl
  · obtain ⟨y, L, h, xs, ms, rfl, hH, n1, n2, l1, l2, hL, hms, fit, hlt, q⟩ := h
    have hu := hu_of hr
    have nd := sc_unpacked.nd
    refine ⟨_, (pss_cons (ps_set (i := 2) nd rfl (Or.inl rfl) (pe_mks mk_TreeD hr (by omega) (by rfl) (pa_cons (pv 0) pa_nil) pk_nil))
      (pss_cons (ps_for PassesOwn.never rfl (pi_enum (by rfl) (by assumption) (pa_cons (pv 1) pa_nil)) (pg_tupK K (pg_tup rfl (pgs_cons (pg_name (i := 3) nd rfl (Or.inl rfl)) (pgs_cons (pg_name (i := 4) nd rfl (Or.inl rfl)) pgs_nil))))
        (pss_one (ps_expr (pe_cc c_unpack hr (by omega) (by rfl) (pa_cons (pv 2) (pa_cons (pv 3) (pa_cons (pv 4) pa_nil)))))))
      (pss_one (ps_ret (pe_mtA0 mA_house hr (by omega) (pv 2)))))), ?_⟩
    walk_at "rd"
    refine ⟨rfl, fun x dx hx hdx ndx => ⟨rfl, fun E => ?_⟩⟩
    have up : ∀ b o, H b = some o → upd (upd H dx (HO.own x)) x (HO.ins C dx []) b = some o := fun b o e => by
      rw [upd_ne (ne_of_none e hx), upd_ne (ne_of_none e hdx)]
      exact e
    have upS : Same H (upd (upd H dx (HO.own x)) x (HO.ins C dx [])) := up
    refine ⟨x, dx, y, h, rfl, upd_same, hH.same upS, n1, n2, l1, l2, fun D M ps qs H1 hD hM fr1 g1 => ⟨rfl, ?_⟩⟩
    have S1 : Same H H1 := fun b o e => fr1 b o (ne_of_none e hx) (up _ _ e)
    have fD : H D = none := upS.free hD
    have fM : H M = none := upS.free hM
    refine r_gname ?_
    walk_at "rd"
    have hL1 := S1.seq hL
    refine r_iEnum ?_
    walk_at "rd"
    refine ⟨L, xs, rfl, hL1, ?_⟩
    refine for_it (walk_enum (xs := xs)) (fun i σ H' => ∃ v3 v4 ps' qs', σ = [some (.ref y), some (.ref L), some (.ref x), v3, v4] ∧ Same H H' ∧ TrIn K C H' x dx D M ps' qs' (putAll (trdOf h) (ms.take i))) ?_ (fun i σ H' _ ⟨_, _, _, _, _, e, _⟩ => e.seq hL) ?_ ?_
    · exact ⟨none, none, ps, qs, rfl, S1, g1⟩
    · rintro i v σ Hc H' hi ⟨v3, v4, ps', qs', rfl, S, g⟩ ⟨TT, x1, y1, rfl, hTT, rfl, hx1, hy1⟩
      cases Option.some.inj hx1
      obtain ⟨m, hm, y9, rfl, hy9⟩ := paired_at hms hy1
      have hTl : SqT K (upd Hc TT (.tup [.int (i : Int), .ref y9])) TT [.int (i : Int), .ref y9] := SqT.of upd_same
      have e6 := same_new (o := HO.tup [.int (i : Int), .ref y9]) hTT
      generalize (upd Hc TT (.tup [.int (i : Int), .ref y9])) = H6 at *
      refine r_gtup hTl rfl ?_
      refine r_gcons ?_
      refine r_gname ?_
      refine r_gcons ?_
      refine r_gname ?_
      refine r_gnil ?_
      walk_at "rd"
      have nxy : x ≠ y9 := by
        obtain ⟨Cy, dy, fy, hy⟩ := Mem.ob hy9
        exact (ne_of_none hy hx).symm
      refine ⟨x, y9, dx, D, M, (i : Int), _, m, ps', qs', rfl, ⟨e6 _ _ g.ob, e6 _ _ g.d, g.pd.mono fun _ _ y => y.same e6, e6 _ _ g.m, g.pm, g.ne⟩, nxy, hy9.same (S.trans e6), fitAll_at fit hm, fun ps2 qs2 H7 fr7 g7 => ?_⟩
      walk_at "rd"
      refine ⟨_, _, ps2, qs2, rfl, fun b o e => fr7 b o (ne_of_none e hx) (ne_of_none e fD) (ne_of_none e fM) ((S.trans e6) _ _ e), ?_⟩
      rw [take_snoc hm, putAll_snoc]
      exact g7
    · rintro σ Hc ⟨v3, v4, ps', qs', rfl, S, g⟩
      rw [show xs.length = ms.length from Paired.length hms, List.take_length] at g
      walk_at "rd"
      refine r_meth ?_
      walk_at "rd"
      refine ⟨x, dx, _, rfl, g.ob, rfl, ?_⟩
      refine ⟨x, _, rfl, ⟨dx, D, M, ps', qs', g⟩, hlt, putAll_nd n1, fun ys z H8 hpm hst hz e8 hH8 => ?_⟩
      obtain ⟨T8, F8, hT8, hF8, g8⟩ := hH8
      exact q ys z H8 hpm hst (S.free hz) (S.trans e8) ⟨T8, F8, S.free hT8, S.free hF8, g8⟩
end
/-! ### tables and houses, pure -/
section
variable {α : Type}
theorem look_mem {z : Str} : ∀ {l : List (Str × α)}, (look l z).isSome = true ↔ z ∈ l.map (·.1)
  | [] => by simp [look]
  | (y, x) :: l => by
    rw [look_cons, List.map_cons, List.mem_cons]
    by_cases h : y = z
    · rw [if_pos h]
      exact ⟨fun _ => .inl h.symm, fun _ => rfl⟩
    · rw [if_neg h, look_mem]
      exact ⟨.inr, fun g => g.elim (fun e => absurd e.symm h) id⟩
theorem look_map {f : Str → α} {z : Str} : ∀ {ys : List Str}, look (ys.map fun p => (p, f p)) z = if z ∈ ys then some (f z) else none
  | [] => by simp [look]
  | y :: ys => by
    rw [List.map_cons, look_cons, look_map]
    by_cases h : y = z
    · rw [if_pos h, h, if_pos List.mem_cons_self]
    · rw [if_neg h]
      by_cases g : z ∈ ys
      · rw [if_pos g, if_pos (List.mem_cons_of_mem _ g)]
      · rw [if_neg g, if_neg (fun e => (List.mem_cons.mp e).elim (fun e => h e.symm) g)]
theorem keys_perm {l : List (Str × α)} {ks : List Str} (nd : (l.map (·.1)).Nodup) (nk : ks.Nodup) (h : ∀ p, (look l p).isSome = true ↔ p ∈ ks) : (l.map (·.1)).Perm ks :=
  (List.perm_ext_iff_of_nodup nd nk).mpr fun p => look_mem.symm.trans (h p)
end
theorem putAb_get {p : Str} : ∀ {a : List Str} {l : List (Str × Thg)}, look (putAb l a) p = if p ∈ a then some ((look l p).getD (.dir 493 0)) else look l p
  | [], l => by rw [if_neg (by simp)]; rfl
  | q :: a, l => by
    show look (putAb (if (look l q).isSome = true then l else putA l q (.dir 493 0)) a) p = _
    rw [putAb_get]
    by_cases e : p = q
    · subst e
      rw [if_pos List.mem_cons_self]
      cases h : look l p with
      | some x =>
        have e : look (if (some x).isSome = true then l else putA l p (.dir 493 0)) p = some x := h
        rw [e]
        split <;> rfl
      | none =>
        have e : look (if (none : Option Thg).isSome = true then l else putA l p (.dir 493 0)) p = some (.dir 493 0) := by
          rw [if_neg (by decide), look_put, if_pos rfl]
        rw [e]
        split <;> rfl
    · have h2 : look (if (look l q).isSome = true then l else putA l q (.dir 493 0)) p = look l p := by
        split
        · rfl
        · rw [look_put, if_neg e]
      rw [h2]
      by_cases g : p ∈ a
      · rw [if_pos g, if_pos (List.mem_cons_of_mem _ g)]
      · rw [if_neg g, if_neg (fun h => (List.mem_cons.mp h).elim e g)]
theorem putM_th {t : Trd} {m : Mem} {p : Str} : look (putM t m).things p = if p = m.nm then some (m.thg' (putAb t.things (aboveP m.nm)) m.tgt) else if p ∈ aboveP m.nm then some ((look t.things p).getD (.dir 493 0)) else look t.things p := by
  show look (putA _ _ _) p = _
  rw [look_put, putAb_get]
theorem drop_len {α : Type} {l : List (Str × α)} {z : Str} : (dropA l z).length ≤ l.length := List.length_filter_le _ _
theorem putM_mlen {t : Trd} {m : Mem} : (putM t m).marks.length ≤ t.marks.length + 1 := by
  show (if _ then _ else _ : List (Str × Key)).length ≤ _
  split
  · exact put_len
  · exact Nat.le_succ_of_le drop_len
/-- what a mark says of a path -/
theorem putM_mk {t : Trd} {m : Mem} {p : Str} : look (putM t m).marks p = if p = m.nm then (if (m.thg' (putAb t.things (aboveP m.nm)) m.tgt).kind = "file" then some (if m.isLnk = true then (look t.marks m.tgt).getD (Sum.inl 0) else Sum.inl (t.many + 1)) else none) else look t.marks p := by
  show look (if _ then _ else _ : List (Str × Key)) p = _
  by_cases h : (m.thg' (putAb t.things (aboveP m.nm)) m.tgt).kind = "file"
  · rw [if_pos h, look_put]
    by_cases e : p = m.nm
    · rw [if_pos e, if_pos e, if_pos h]
    · rw [if_neg e, if_neg e]
  · rw [if_neg h, look_drop]
    by_cases e : p = m.nm
    · rw [if_pos e, if_pos e, if_neg h]
    · rw [if_neg e, if_neg e]
/-! ### the house that comes out -/
/-! ### sorted texts -/
def leS (a b : Str) : Prop := a.cps.toList ≤ b.cps.toList
theorem leS_of {a b : Str} (h : (!Spec.ltCps b.cps.toList a.cps.toList) = true) : leS a b := by
  rw [Bool.not_eq_true', PyProof.Rows.ltCps_eq, decide_eq_false_iff_not] at h
  exact h
theorem rising_le : ∀ {l : List Str} {p : Str}, risingS p l = true → l.Pairwise leS ∧ ∀ x ∈ l, leS p x
  | [], _, _ => ⟨.nil, fun _ h => nomatch h⟩
  | x :: l, p, h => by
    have h : (!Spec.ltCps x.cps.toList p.cps.toList && risingS x l) = true := h
    rw [Bool.and_eq_true] at h
    have h1 := leS_of h.1
    have ⟨h2, h3⟩ := rising_le h.2
    refine ⟨.cons h3 h2, fun y hy => ?_⟩
    rcases List.mem_cons.mp hy with e | hy
    · rw [e]; exact h1
    · exact List.le_trans h1 (h3 y hy)
theorem sorted_le {l : List Str} (h : sortedS l = true) : l.Pairwise leS := by
  cases l with
  | nil => exact .nil
  | cons x l => exact .cons (rising_le h).2 (rising_le h).1
theorem leS_eq {a b : Str} (h : leS a b) (g : leS b a) : a = b := TL.ext_tl (List.le_antisymm h g)
/-- what is ascending is one list -/
theorem sorted_one : ∀ {xs ys : List Str}, xs.Pairwise leS → ys.Pairwise leS → xs.Perm ys → xs = ys
  | [], ys, _, _, h => (List.nil_perm.mp h).symm
  | x :: xs, [], _, _, h => absurd (List.perm_nil.mp h) (by simp)
  | x :: xs, y :: ys, hx, hy, h => by
    have e : x = y := by
      rcases List.mem_cons.mp (h.mem_iff.mp List.mem_cons_self) with e | h1
      · exact e
      rcases List.mem_cons.mp (h.mem_iff.mpr (List.mem_cons_self (a := y))) with e | h2
      · exact e.symm
      exact leS_eq ((List.pairwise_cons.mp hx).1 y h2) ((List.pairwise_cons.mp hy).1 x h1)
    subst e
    rw [sorted_one (List.pairwise_cons.mp hx).2 (List.pairwise_cons.mp hy).2 ((List.perm_cons x).mp h)]
/-! ### the law's own paths above; values compared -/
/-! ### members made without keywords; the law's state -/
section
variable {K : PySem.W.Frag} {c : Cs} {σ : L2.St} {H : Hp} {Q : VK}
def tkD (c : Cs) (ta : TA) : TE := tMakS (fun vs zs H Q => zs = [] ∧ ∀ (E : XK), spDirI c.D (vs ++ [V.int 493, V.int 0]) H Q E) ([] : List Str).length c.D ta tNil
end
def But2 (a b : Addr) (H H' : Hp) : Prop := ∀ x o, x ≠ a → x ≠ b → H x = some o → H' x = some o
theorem But2.refl (a b : Addr) (H : Hp) : But2 a b H H := fun _ _ _ _ e => e
theorem But2.trans {a b : Addr} {H H' H2 : Hp} (h : But2 a b H H') (g : But2 a b H' H2) : But2 a b H H2 := fun x o n m e => g x o n m (h x o n m e)
theorem But2.same {a b : Addr} {H H' : Hp} (h : Same H H') : But2 a b H H' := fun x o _ _ e => h x o e
theorem But2.put {a b : Addr} {H : Hp} {o : HO} : But2 a b H (upd H b o) := fun x o' _ m e => by rw [upd_ne m]; exact e
theorem But2.new {a b p : Addr} {H H' : Hp} {o : HO} (h : But2 a b H H') (hp : H p = none) : But2 a b H (upd H' p o) := fun x o' n m e => by rw [upd_ne (ne_of_none e hp)]; exact h x o' n m e
theorem HsTF.keep {K : PySem.W.Frag} {C a b x T F : Addr} {H H' : Hp} {h : Hs} (e : But2 a b H H') (ha : ∃ xs, H a = some (.lst xs)) (hb : ∃ ps, H b = some (.dK ps)) (nT : T ≠ b) (nF : F ≠ b) (g : HsTF K C H x T F h) : HsTF K C H' x T F h := by
  obtain ⟨dx, R, vs, ps, qs, g⟩ := g
  obtain ⟨xs, ha⟩ := ha
  obtain ⟨zs, hb⟩ := hb
  have tk : TK H H' := ⟨fun p ys h3 => e _ _ (fun e3 => by rw [e3, ha] at h3; cases h3) (fun e3 => by rw [e3, hb] at h3; cases h3) h3, fun p o ys h3 => e _ _ (fun e3 => by rw [e3, ha] at h3; cases h3) (fun e3 => by rw [e3, hb] at h3; cases h3) h3⟩
  have nl : ∀ {p o}, H p = some o → (∀ xs, o ≠ .lst xs) → p ≠ a := fun h3 n e3 => by rw [e3, ha] at h3; exact n _ (Option.some.inj h3).symm
  have nd : ∀ {p o}, H p = some o → (∀ xs, o ≠ .dK xs) → p ≠ b := fun h3 n e3 => by rw [e3, hb] at h3; exact n _ (Option.some.inj h3).symm
  exact ⟨dx, R, vs, ps, qs, e _ _ (nl g.ob fun _ => nofun) (nd g.ob fun _ => nofun) g.ob, e _ _ (nl g.r fun _ => nofun) (nd g.r fun _ => nofun) g.r, Paired.mapP g.pr fun _ _ y => y.tk tk, e _ _ (nl g.t fun _ => nofun) nT g.t, g.pt.mono fun _ _ y => y.tk tk, e _ _ (nl g.f fun _ => nofun) nF g.f, g.pf, g.ne⟩
abbrev s__law_path : Stmt := topS 69
abbrev N__law_path : List Str := ["_law_source_here", "_law_parts", "_law_turn"]
theorem sc__law_path : FnScope N__law_path ["_law_source_here"] (defScope s__law_path) := ⟨rfl, rfl, rfl, by decide +kernel, rfl, by decide +kernel, by decide +kernel⟩
/-! ### joined parts, pure -/
def jn (ps : List Str) : Str := Txt.join "/" ps
theorem slash47 : TL.tl ("/" : Str) = [47] := by decide +kernel
theorem split_jn {ps : List Str} (hne : ps ≠ []) (hp : ∀ p ∈ ps, 47 ∉ TL.tl p) : Txt.split (jn ps) "/" = ps := TL.split_join slash47 (by decide +kernel) hne hp
/-- a right part of a path -/
def ptB (z : Str) : Bool := charsB z && !noPart z && !decide (47 ∈ TL.tl z)
theorem ptB_3 {z : Str} (h : ptB z = true) : charsB z = true ∧ noPart z = false ∧ 47 ∉ TL.tl z := by
  unfold ptB at h
  simp only [Bool.and_eq_true, Bool.not_eq_true', decide_eq_false_iff_not] at h
  exact ⟨h.1.1, h.1.2, h.2⟩
theorem jn_path {z : Str} {r : List Str} (h : ∀ y ∈ z :: r, ptB y = true) (hn : nameB (Txt.join "/" (z :: r)) = true) : pathB (Txt.join "/" (z :: r)) = true := by
  have e := split_jn (ps := z :: r) (by simp) fun p hp => (ptB_3 (h p hp)).2.2
  unfold jn at e
  unfold pathB
  rw [hn, e, Bool.true_and, Bool.not_eq_true']
  rw [← Bool.not_eq_true, List.any_eq_true]
  rintro ⟨y, hy, hq⟩
  rw [(ptB_3 (h y hy)).2.1] at hq
  cases hq
/-- a path as it is drawn: its parts -/
def PathD (z : Str) : Prop := ∃ (p : Str) (r : List Str), z = jn (p :: r) ∧ (∀ y ∈ p :: r, ptB y = true) ∧ 1 ≤ p.length ∧ p.length ≤ 250 ∧ r.length ≤ 3 ∧ nameB z = true ∧ (r = [] ∨ 122 ∉ TL.tl p)
theorem PathD.path {z : Str} (h : PathD z) : pathB z = true := by
  obtain ⟨p, r, rfl, h1, _, _, _, h2, _⟩ := h
  exact jn_path h1 h2
theorem PathD.split {z : Str} (h : PathD z) : ∃ p r, Txt.split z "/" = p :: r ∧ PathD p ∧ z.length ≤ 250 := by
  obtain ⟨p, r, rfl, h1, h3, h4, _, h2, _⟩ := h
  have hp := ptB_3 (h1 p List.mem_cons_self)
  exact ⟨p, r, split_jn (by simp) fun y hy => (ptB_3 (h1 y hy)).2.2, ⟨p, [], rfl, fun y hy => by rw [List.mem_singleton.mp hy]; exact h1 p List.mem_cons_self, h3, h4, Nat.zero_le _, name_of h3 h4 hp.1, .inl rfl⟩, (of_name h2).2.1⟩
theorem PathD.name {z : Str} (h : PathD z) : nameB z = true := by
  obtain ⟨p, r, _, _, _, _, _, h2, _⟩ := h
  exact h2
theorem PathD.above {z : Str} (h : PathD z) : (aboveP z).length ≤ 3 := by
  obtain ⟨p, r, rfl, h1, _, _, h3, _⟩ := h
  have e := split_jn (ps := p :: r) (by simp) fun y hy => (ptB_3 (h1 y hy)).2.2
  unfold aboveP
  rw [e, List.length_map, List.length_range]
  exact h3
def ptS (m : Nat) (v : V) : Prop := ∃ z : Str, v = .str z ∧ 1 ≤ z.length ∧ z.length ≤ m ∧ ptB z = true ∧ 122 ∉ TL.tl z
def ptsB (m : Nat) : V → Bool
  | .str z => decide (1 ≤ z.length) && decide (z.length ≤ m) && ptB z && !decide (122 ∈ TL.tl z)
  | _ => false
theorem pt_all {m : Nat} {xs : List V} (h : xs.all (ptsB m) = true) : ∀ v ∈ xs, ptS m v := fun v hv => by
  have h1 := List.all_eq_true.mp h v hv
  cases v with
  | str z =>
    have h2 : (decide (1 ≤ z.length) && decide (z.length ≤ m) && ptB z && !decide (122 ∈ TL.tl z)) = true := h1
    simp only [Bool.and_eq_true, decide_eq_true_eq, Bool.not_eq_true', decide_eq_false_iff_not] at h2
    exact ⟨z, rfl, h2.1.1.1, h2.1.1.2, h2.1.2, h2.2⟩
  | _ => cases h1
section
variable {P : Program} {w : World} {K : PySem.W.Frag} {mg : Str → Option Value} {base : Heap}
def spPathH : Sp := fun vs H Q _ => ∃ (a : Addr) (u : Nat), vs = [.ref a] ∧ SrcB u H a ∧ u ≤ 900000 ∧ ∀ (z : Str) H', PathD z → SrcB (u + 5) H' a → But a H H' → Q (.str z) H'
theorem ok_path {f : Addr} {fd : FuncData} {k : Nat} (F : Fun K "_law_path" "_law_path" s__law_path f fd) (m1 : mg "range" = none) (c_draw : CalT P w K mg base 2 "_law_draw" spDraw) :
    FnOk P w K mg base CX0 (k + 3) f fd ["_law_source_here"] spPathH := by
  refine F.ok sc__law_path (fun vs H Q E h => ?_) (fun cdv A outer s H vs Q E hr h => ?_)
  · obtain ⟨a, u, rfl, _⟩ := h
    rfl
  · obtain ⟨a, u, rfl, hs, hu9, q⟩ := h
    have hu := hu_of hr
    have nd := sc__law_path.nd
    refine ⟨_, (pss_cons (ps_setLc (i := 1) (own := [("_law_turn", 2)]) (g := (gName 2)) (tt := tYes) rfl nd rfl rfl (sw_true rfl rfl rfl (by decide +kernel)) (pi_range1 (by rfl) (by assumption) (pa_cons (pe_op op_add pe_int (pe_cc c_draw hr (by omega) (by rfl) (pa_cons (pv 0) (pa_cons pe_int pa_nil)))) pa_nil)) (blkOk_by (N := N__law_path) (sc := defScope s__law_path) (by decide +kernel)) (fun _ _ _ _ _ => (pg_name (i := 2) nd rfl (Or.inl rfl))) (fun _ _ _ _ _ => pts_nil) (fun _ _ _ _ _ => (pe_ix (ix_listK K) (pe_lst (pa_cons pe_str (pa_cons pe_str (pa_cons pe_str (pa_cons pe_str (pa_cons pe_str (pa_cons pe_str pa_nil))))))) (pe_cc c_draw hr (by omega) (by rfl) (pa_cons (pv 0) (pa_cons pe_int pa_nil))) (fun _ _ => rfl))))
      (pss_cons (ps_if (pt_cmpR op_eq (pe_cc c_draw hr (by omega) (by rfl) (pa_cons (pv 0) (pa_cons pe_int pa_nil))) pe_int (nomark _))
        (pss_one (ps_expr (pe_bm PySem.F.plainAttrs_list PySem.F.slot_list_append PySem.F.type_list_append mt_append (pv 1) (pa_cons (pe_op op_mulS pe_str pe_int) pa_nil))))
        pss_nil)
      (pss_one (ps_ret (pe_bmK K PySem.F.plainAttrs_str PySem.F.slot_str_join PySem.F.type_str_join (mt_joinK K) pe_str (pa_cons (pv 1) pa_nil)))))), ?_⟩
    walk_at "rd"
    refine sp_draw hs (by omega) (by decide) (by decide) fun d H1 d0 d1 hs1 hb1 => ?_
    obtain ⟨n, rfl⟩ := Int.eq_ofNat_of_zero_le d0
    walk_at "rd"
    intro L hL
    have nL : L ≠ a := hs1.ne hL
    refine lc_it (walk_range (lo := 0) (n := _)) (fun i H' => SrcB (u + 1 + i) H' a ∧ But a H1 H' ∧ ∃ zs : List Str, H' L = some (.lst (zs.map V.str)) ∧ zs.length = i ∧ ∀ z ∈ zs, 1 ≤ z.length ∧ z.length ≤ 3 ∧ ptB z = true ∧ 122 ∉ TL.tl z) ⟨hs1.new hL, Same.but (same_new hL), [], upd_same, rfl, fun _ h => nomatch h⟩ (fun _ _ _ _ => True.intro) ?_ ?_
    · rintro i v Hc H' hi ⟨hs', hb', zs, hL', hl', hz'⟩ ⟨rfl, hv⟩
      have hi3 : i < 3 := by omega
      walk_at "rd"
      refine ⟨rfl, ?_⟩
      unfold tYes
      dsimp only
      rw [if_pos rfl]
      walk_at "st"
      refine r_pick (u := u + 1 + i) (ptS 3) rfl (by decide) (by decide) (by omega) (fun Q' h => ?_) ?_
      · walk_at "rd"
        exact h _ _ rfl (pt_all (by decide +kernel)) hs' (.refl _ _)
      · rintro v H2 ⟨z, rfl, z1, z2, z3, z4⟩ hs2 hb2
        have hL2 := hb2 _ _ nL hL'
        refine ⟨_, hL2, Nat.lt_of_le_of_lt (by rw [List.length_map]; omega : _ ≤ 10) (by decide), ?_, fun b o nb eo => ?_, zs ++ [z], by rw [upd_same, List.map_append]; rfl, by rw [List.length_append, hl']; rfl, fun y hy => ?_⟩
        · obtain ⟨l, m, c, g, r⟩ := hs2
          exact ⟨l, m, c, upd_diff nL.symm g, r⟩
        · rw [upd_ne (ne_of_none eo hL)]
          exact hb2 _ _ nb (hb' _ _ nb eo)
        · rcases List.mem_append.mp hy with hy | hy
          · exact hz' y hy
          · rw [List.mem_singleton.mp hy]
            exact ⟨z1, z2, z3, z4⟩
    · rintro H3 ⟨hs', hb', zs, hL', hl', hz'⟩
      obtain ⟨z, r, rfl⟩ : ∃ z r, zs = z :: r := by
        cases zs with
        | nil => exact absurd hl' (by show ¬ 0 = _; omega)
        | cons z r => exact ⟨z, r, rfl⟩
      have hr2 : r.length ≤ 2 := by
        have : r.length + 1 = _ := hl'
        omega
      have hs3 : SrcB (u + 4) H3 a := hs'.mono (by omega)
      have hz := hz' z List.mem_cons_self
      have hsum := sum_lens (m := 3) fun y hy => (hz' y (List.mem_cons_of_mem z hy)).2.1
      walk_at "rd"
      refine sp_draw hs3 (by omega) (by decide) (by decide) fun d H4 d0 d1 hs4 hb4 => ?_
      have hL4 := hb4 _ _ nL hL'
      have bb : But a H H4 := (hb1.trans hb').trans hb4
      walk_at "rd"
      refine r_iteD (fun e => ?_) (fun e => ?_)
      · walk_at "rd"
        have q1 : (repZ "q" 101).length = 101 := by decide +kernel
        have q2 : ptB (repZ "q" 101) = true := by decide +kernel
        have hall : ∀ y ∈ z :: (r ++ [repZ "q" 101]), ptB y = true := fun y hy => by
          rcases List.mem_cons.mp hy with rfl | hy
          · exact hz.2.2.1
          · rcases List.mem_append.mp hy with hy | hy
            · exact (hz' y (List.mem_cons_of_mem z hy)).2.2.1
            · rw [List.mem_singleton.mp hy]
              exact q2
        refine r_append hL4 (Nat.lt_of_le_of_lt (by rw [List.length_map, List.length_cons]; omega : _ ≤ 10) (by decide)) ?_
        walk_at "rd"
        refine ⟨rfl, ?_⟩
        walk_at "rd"
        refine join_at (z := z) (r := r ++ [repZ "q" 101]) (by rw [upd_same, List.map_cons, List.map_cons, List.map_append]; rfl) (fun y hy => (ptB_3 (hall y hy)).1) hz.1 ?_ ?_
        · rw [List.map_append, List.sum_append, List.map_singleton, List.sum_singleton, q1]
          omega
        · intro hn
          refine q _ _ ⟨_, _, rfl, hall, hz.1, by omega, by rw [List.length_append]; show r.length + 1 ≤ 3; omega, hn, .inr hz.2.2.2⟩ ?_ fun b o nb eo => ?_
          · obtain ⟨l, m, c, g, r⟩ := hs4
            exact ⟨l, m, c, upd_diff nL.symm g, r⟩
          · rw [upd_ne (ne_of_none eo (hb1.back hs.src hs1.src hL))]
            exact bb _ _ nb eo
      · walk_at "rd"
        refine ⟨rfl, ?_⟩
        walk_at "rd"
        refine join_at (z := z) (r := r) hL4 (fun y hy => (ptB_3 (hz' y hy).2.2.1).1) hz.1 (by omega) fun hn => ?_
        exact q _ _ ⟨_, _, rfl, fun y hy => (hz' y hy).2.2.1, hz.1, by omega, by omega, hn, .inr hz.2.2.2⟩ hs4 bb
theorem sp_pathH {a : Addr} {u : Nat} {H : Hp} {Q : VK} {E : XK} (h : SrcB u H a) (hu : u ≤ 900000) (k : ∀ (z : Str) H', PathD z → SrcB (u + 5) H' a → But a H H' → Q (.str z) H') : spPathH ([.ref a] ++ []) H Q E := ⟨a, u, rfl, h, hu, k⟩
end
abbrev s__law_pieces : Stmt := topS 72
abbrev N__law_pieces : List Str := ["_law_source_here", "_law_one", "_law_two", "_law_pieces_here", "_law_end"]
theorem sc__law_pieces : FnScope N__law_pieces ["_law_source_here"] (defScope s__law_pieces) := ⟨rfl, rfl, rfl, by decide +kernel, rfl, by decide +kernel, by decide +kernel⟩
section
variable {P : Program} {w : World} {K : PySem.W.Frag} {mg : Str → Option Value} {base : Heap}
theorem ok_pieces {f : Addr} {fd : FuncData} {k : Nat} (F : Fun K "_law_pieces" "_law_pieces" s__law_pieces f fd) (m1 : mg "len" = none) (c_draw : CalT P w K mg base 2 "_law_draw" spDraw) :
    FnOk P w K mg base CX0 (k + 3) f fd ["_law_source_here"] spPcs := by
  refine F.ok sc__law_pieces (fun vs H Q E h => ?_) (fun cdv A outer s H vs Q E hr h => ?_)
  · obtain ⟨a, u, rfl, _⟩ := h
    rfl
  · obtain ⟨a, u, rfl, hs, hu9, q⟩ := h
    have hu := hu_of hr
    have nd := sc__law_pieces.nd
    have hu64 : (A.deeper (envOfC "_law_pieces" (defScope s__law_pieces) s.heap.objs.size f cdv)).units + 64 < cLine := by have := hr.un; omega
    refine ⟨_, (pss_cons (ps_par (i := 1) (j := 2) rfl nd rfl rfl (by decide) rfl rfl (pa_cons (pe_cc c_draw hr (by omega) (by rfl) (pa_cons (pv 0) (pa_cons pe_int pa_nil))) (pa_cons (pe_op op_add pe_int (pe_cc c_draw hr (by omega) (by rfl) (pa_cons (pv 0) (pa_cons pe_int pa_nil)))) pa_nil)) (by rfl))
      (pss_cons (ps_set (i := 3) nd rfl (Or.inl rfl) (pe_slice (sl_listK K) (pe_lst (pa_cons (pe_tup (pa_cons (pv 1) (pa_cons (pe_op op_rep (pe_lst (pa_cons pe_int pa_nil)) (pv 2)) pa_nil))) (pa_cons (pe_tup (pa_cons (pe_op op_add (pe_op op_add (pe_op op_add (pv 1) (pv 2)) pe_int) (pe_cc c_draw hr (by omega) (by rfl) (pa_cons (pv 0) (pa_cons pe_int pa_nil)))) (pa_cons (pe_lst (pa_cons pe_int (pa_cons pe_int pa_nil))) pa_nil))) pa_nil))) po_none (po_some (pe_cc c_draw hr (by omega) (by rfl) (pa_cons (pv 0) (pa_cons pe_int pa_nil))))))
      (pss_cons (ps_set (i := 4) nd rfl (Or.inl rfl) (pe_ifExp (pt_cmpR (op_neD hu64) (pv 3) (pe_lst pa_nil) (nomark _)) (pe_op op_add (pe_ix (ix_tupK K) (pe_ix (ix_listK K) (pv 3) (pe_un un_neg pe_int) (fun _ _ => rfl)) pe_int (fun _ _ => rfl)) (pe_callB (call_lenK K) (by rfl) (by assumption) (by decide +kernel) (pa_cons (pe_ix (ix_tupK K) (pe_ix (ix_listK K) (pv 3) (pe_un un_neg pe_int) (fun _ _ => rfl)) pe_int (fun _ _ => rfl)) pa_nil))) pe_int))
      (pss_one (ps_ret (pe_tup (pa_cons (pe_op op_add (pv 4) (pe_ix (ix_listK K) (pe_lst (pa_cons pe_int (pa_cons pe_int (pa_cons pe_int pa_nil)))) (pe_cc c_draw hr (by omega) (by rfl) (pa_cons (pv 0) (pa_cons pe_int pa_nil))) (fun _ _ => rfl))) (pa_cons (pv 3) pa_nil)))))))), ?_⟩
    walk_at "rd"
    refine sp_draw hs (by omega) (by decide) (by decide) fun d1 H1 d10 d11 hs1 hb1 => ?_
    walk_at "rd"
    refine sp_draw hs1 (by omega) (by decide) (by decide) fun d2 H2 d20 d21 hs2 hb2 => ?_
    obtain ⟨n, hn⟩ : ∃ n : Nat, 1 + d2 = (n : Int) := ⟨(1 + d2).toNat, by omega⟩
    walk_at "rd"
    rename_i p0 hp0
    rw [hn]
    refine r_rep upd_same (by omega) (by omega) (Nat.le_trans (by simp; omega : _ ≤ 5000) (by decide)) fun p1 hp1 => ?_
    have e7 : (List.replicate (Int.toNat (n : Int)) [V.int 7]).flatten = (List.replicate n (7 : Int)).map V.int := by simp
    rw [e7]
    walk_at "rd"
    rename_i t1 ht1
    have k0 := same_new (o := HO.lst [V.int 7]) hp0
    have k1 := same_new (o := HO.lst ((List.replicate n (7 : Int)).map V.int)) hp1
    have k2 := same_new (o := HO.tup [V.int d1, V.ref p1]) ht1
    have kk := (k0.trans k1).trans k2
    have n1 : H2 p1 = none := k0.free hp1
    have n2 : H2 t1 = none := (k0.trans k1).free ht1
    have gT1 : upd (upd (upd H2 p0 (HO.lst [V.int 7])) p1 (HO.lst (List.map V.int (List.replicate n 7)))) t1 (HO.tup [V.int d1, V.ref p1]) t1 = some (.tup [V.int d1, V.ref p1]) := upd_same
    have gP1 : upd (upd (upd H2 p0 (HO.lst [V.int 7])) p1 (HO.lst (List.map V.int (List.replicate n 7)))) t1 (HO.tup [V.int d1, V.ref p1]) p1 = some (.lst ((List.replicate n (7 : Int)).map V.int)) := k2 _ _ upd_same
    generalize upd (upd (upd H2 p0 (HO.lst [V.int 7])) p1 (HO.lst (List.map V.int (List.replicate n 7)))) t1 (HO.tup [V.int d1, V.ref p1]) = HA at kk gT1 gP1 ⊢
    clear k0 k1 k2 hp1 ht1
    refine sp_draw (hs2.same kk) (by omega) (by decide) (by decide) fun d3 H3 d30 d31 hs3 hb3 => ?_
    have gT3 := hb3 _ _ (hs2.ne n2) gT1
    have gP3 := hb3 _ _ (hs2.ne n1) gP1
    have bb3 : But a H2 H3 := (Same.but kk).trans hb3
    walk_at "rd"
    rename_i p9 hp9 t2 ht2 l0 hl0
    have m0 := same_new (o := HO.lst [V.int 9, V.int 0]) hp9
    have m1 := same_new (o := HO.tup [V.int (d1 + (n : Int) + 1 + d3), V.ref p9]) ht2
    have m2 := same_new (o := HO.lst [V.ref t1, V.ref t2]) hl0
    have mm := (m0.trans m1).trans m2
    have n9 : H3 p9 = none := hp9
    have n3 : H3 t2 = none := m0.free ht2
    have n4 : H3 l0 = none := (m0.trans m1).free hl0
    have g9 : upd (upd (upd H3 p9 (HO.lst [V.int 9, V.int 0])) t2 (HO.tup [V.int (d1 + (n : Int) + 1 + d3), V.ref p9])) l0 (HO.lst [V.ref t1, V.ref t2]) p9 = some (.lst [V.int 9, V.int 0]) := m2 _ _ (m1 _ _ upd_same)
    have gT2 : upd (upd (upd H3 p9 (HO.lst [V.int 9, V.int 0])) t2 (HO.tup [V.int (d1 + (n : Int) + 1 + d3), V.ref p9])) l0 (HO.lst [V.ref t1, V.ref t2]) t2 = some (.tup [V.int (d1 + (n : Int) + 1 + d3), V.ref p9]) := m2 _ _ upd_same
    have gL0 : upd (upd (upd H3 p9 (HO.lst [V.int 9, V.int 0])) t2 (HO.tup [V.int (d1 + (n : Int) + 1 + d3), V.ref p9])) l0 (HO.lst [V.ref t1, V.ref t2]) l0 = some (.lst [V.ref t1, V.ref t2]) := upd_same
    have gT4 := mm _ _ gT3
    have gP4 := mm _ _ gP3
    generalize upd (upd (upd H3 p9 (HO.lst [V.int 9, V.int 0])) t2 (HO.tup [V.int (d1 + (n : Int) + 1 + d3), V.ref p9])) l0 (HO.lst [V.ref t1, V.ref t2]) = HB at mm g9 gT2 gL0 gT4 gP4 ⊢
    clear m0 m1 m2 hp9 ht2 hl0
    refine sp_draw (hs3.same mm) (by omega) (by decide) (by decide) fun d4 H4 d40 d41 hs4 hb4 => ?_
    have bb4 : But a H2 H4 := (bb3.trans (Same.but mm)).trans hb4
    have bAll : But a H H4 := (hb1.trans hb2).trans bb4
    have a9 := hb4 _ _ (hs3.ne n9) g9
    have aT2 := hb4 _ _ (hs3.ne n3) gT2
    have aL0 := hb4 _ _ (hs3.ne n4) gL0
    have aT1 := hb4 _ _ (hs2.ne n2) gT4
    have aP1 := hb4 _ _ (hs2.ne n1) gP4
    have f1 : H p1 = none := But.back hs.src hs2.src (hb1.trans hb2) n1
    have f2 : H t1 = none := But.back hs.src hs2.src (hb1.trans hb2) n2
    have f9 : H p9 = none := But.back hs.src hs3.src ((hb1.trans hb2).trans bb3) n9
    have f3 : H t2 = none := But.back hs.src hs3.src ((hb1.trans hb2).trans bb3) n3
    walk_at "rd"
    rename_i L hL e hE
    have fL : H L = none := But.back hs.src hs4.src bAll hL
    have w0 := same_new (o := HO.lst (cutV [V.ref t1, V.ref t2] none (some d4))) hL
    have w1 := same_new (o := HO.lst []) hE
    have ww := w0.trans w1
    have gL : upd (upd H4 L (HO.lst (cutV [V.ref t1, V.ref t2] none (some d4)))) e (HO.lst []) L = some (.lst (cutV [V.ref t1, V.ref t2] none (some d4))) := w1 _ _ upd_same
    have gE : upd (upd H4 L (HO.lst (cutV [V.ref t1, V.ref t2] none (some d4)))) e (HO.lst []) e = some (.lst []) := upd_same
    have sE := hs4.same ww
    have bE := bAll.trans (Same.but ww)
    replace a9 := ww _ _ a9
    replace aT2 := ww _ _ aT2
    replace aT1 := ww _ _ aT1
    replace aP1 := ww _ _ aP1
    generalize upd (upd H4 L (HO.lst (cutV [V.ref t1, V.ref t2] none (some d4)))) e (HO.lst []) = HC at gL gE sE bE a9 aT2 aT1 aP1 ⊢
    clear w0 w1 ww hL hE
    have fin : ∀ (en z : Int) (sp : List (Int × List Int)) (as : List Addr) (H5 : Hp) (p : Addr), 0 ≤ en → en ≤ 2000 → 0 ≤ z → z ≤ 30 → SrcB (u + 1 + 1 + 1 + 1 + 1) H5 a → But a HC H5 → H5 p = none → HC L = some (.lst (as.map V.ref)) → Paired (fun q (s : Int × List Int) => H q = none ∧ ∃ e, H e = none ∧ HC q = some (.tup [.int s.1, .ref e]) ∧ HC e = some (.lst (s.2.map V.int))) as sp → sp.length ≤ 2 → (∀ z, en ≤ z → spansOk z 0 (sp.map fun s => (s.1, (s.2.length : Int)))) → (∀ s ∈ sp, s.2.all inByte = true ∧ s.2.length ≤ 3) →
        Q (.ref p) (upd H5 p (.tup [.int (en + z), .ref L])) := by
      intro en z sp as H5 p e0 e1 z0 z1 s5 b5 hp gLL gp hl2 hso hall
      have y0 := same_new (o := HO.tup [V.int (en + z), V.ref L]) hp
      have fa : ∀ b o, H b = none → HC b = some o → upd H5 p (.tup [.int (en + z), .ref L]) b = some o := fun b o hn ho => y0 _ _ (b5 _ _ (hs.ne hn) ho)
      exact q p (en + z) sp _ ⟨L, as, But.back hs.src s5.src (bE.trans b5) hp, fL, upd_same, fa _ _ fL gLL, Paired.mapP gp fun q s ⟨k1, e, k2, k3, k4⟩ => ⟨k1, e, k2, fa _ _ k1 k3, fa _ _ k2 k4⟩⟩ (by omega) (by omega) hl2 (hso _ (by omega)) hall (s5.same y0) ((bE.trans b5).trans (Same.but y0))
    have d4c : d4 = 0 ∨ d4 = 1 ∨ d4 = 2 := by omega
    have n3c : n = 1 ∨ n = 2 ∨ n = 3 := by omega
    have r7 : (List.replicate n (7 : Int)).all inByte = true ∧ (List.replicate n (7 : Int)).length ≤ 3 := by rcases n3c with rfl | rfl | rfl <;> decide
    rcases d4c with rfl | rfl | rfl
    · have gL' : HC L = some (.lst []) := gL
      refine ⟨.list [], .list [], .lst (SqL.of gL') .nil, .lst (SqL.of gE) .nil, by decide, by decide, ?_⟩
      walk_at "rd"
      rename_i pl hpl
      refine sp_draw (sE.new hpl) (by omega) (by decide) (by decide) fun d5 H5 d50 d51 hs5 hb5 => ?_
      obtain ⟨v, hv, hat⟩ := pick_at (xs := [V.int 0, V.int 1, V.int 30]) d50 d51
      obtain ⟨z, rfl, z0, z1⟩ := int_all (lo := 0) (hi := 30) (by decide +kernel) v hv
      refine r_ixL (SqL.of (hb5 pl _ (sE.ne hpl) upd_same)) hat ?_
      walk_at "rd"
      rename_i p hp
      exact fin 0 z [] [] H5 p (by decide) (by decide) z0 z1 hs5 ((Same.but (same_new hpl)).trans hb5) hp gL' .nil (Nat.zero_le _) (fun _ _ => True.intro) (fun _ h => nomatch h)
    · have gL' : HC L = some (.lst [.ref t1]) := gL
      refine ⟨.list [.tuple [.int d1, .list ((List.replicate n (7 : Int)).map PyData.int)]], .list [], .lst (SqL.of gL') (.cons (.tup (SqT.of aT1) (.cons (.int _) (.cons (.lst (SqL.of aP1) (dp_ints _)) .nil))) .nil), .lst (SqL.of gE) .nil, ?_, by decide, ?_⟩
      · rcases n3c with rfl | rfl | rfl <;> simp [SeqAt.shaped, PyData.canLay0, PyData.depth, PyData.canLayAll0, PyData.depthAll, List.replicate]
      rw [show PyData.eqv (.list [.tuple [.int d1, .list ((List.replicate n (7 : Int)).map PyData.int)]]) (.list []) = false by simp [PyData.eqv, PyData.eqvAll]]
      walk_at "rd"
      rename_i pl hpl
      refine sp_draw (sE.new hpl) (by omega) (by decide) (by decide) fun d5 H5 d50 d51 hs5 hb5 => ?_
      obtain ⟨v, hv, hat⟩ := pick_at (xs := [V.int 0, V.int 1, V.int 30]) d50 d51
      obtain ⟨z, rfl, z0, z1⟩ := int_all (lo := 0) (hi := 30) (by decide +kernel) v hv
      refine r_ixL (SqL.of (hb5 pl _ (sE.ne hpl) upd_same)) hat ?_
      rw [List.length_map, List.length_replicate]
      walk_at "rd"
      rename_i p hp
      exact fin (d1 + (n : Int)) z [(d1, List.replicate n 7)] [t1] H5 p (by omega) (by omega) z0 z1 hs5 ((Same.but (same_new hpl)).trans hb5) hp gL' (.cons ⟨f2, p1, f1, aT1, aP1⟩ .nil) (show 1 ≤ 2 by decide) (fun z hz => ⟨d10, by rw [List.length_replicate]; omega, by rw [List.length_replicate]; omega, True.intro⟩) (fun s hs => by rw [List.mem_singleton.mp hs]; exact r7)
    · have gL' : HC L = some (.lst [.ref t1, .ref t2]) := gL
      refine ⟨.list [.tuple [.int d1, .list ((List.replicate n (7 : Int)).map PyData.int)], .tuple [.int (d1 + (n : Int) + 1 + d3), .list [.int 9, .int 0]]], .list [], .lst (SqL.of gL') (.cons (.tup (SqT.of aT1) (.cons (.int _) (.cons (.lst (SqL.of aP1) (dp_ints _)) .nil))) (.cons (.tup (SqT.of aT2) (.cons (.int _) (.cons (.lst (SqL.of a9) (.cons (.int _) (.cons (.int _) .nil))) .nil))) .nil)), .lst (SqL.of gE) .nil, ?_, by decide, ?_⟩
      · rcases n3c with rfl | rfl | rfl <;> simp [SeqAt.shaped, PyData.canLay0, PyData.depth, PyData.canLayAll0, PyData.depthAll, List.replicate]
      rw [show PyData.eqv (.list [.tuple [.int d1, .list ((List.replicate n (7 : Int)).map PyData.int)], .tuple [.int (d1 + (n : Int) + 1 + d3), .list [.int 9, .int 0]]]) (.list []) = false by simp [PyData.eqv, PyData.eqvAll]]
      walk_at "rd"
      rename_i pl hpl
      refine sp_draw (sE.new hpl) (by omega) (by decide) (by decide) fun d5 H5 d50 d51 hs5 hb5 => ?_
      obtain ⟨v, hv, hat⟩ := pick_at (xs := [V.int 0, V.int 1, V.int 30]) d50 d51
      obtain ⟨z, rfl, z0, z1⟩ := int_all (lo := 0) (hi := 30) (by decide +kernel) v hv
      refine r_ixL (SqL.of (hb5 pl _ (sE.ne hpl) upd_same)) hat ?_
      walk_at "rd"
      rename_i p hp
      exact fin (d1 + (n : Int) + 1 + d3 + 2) z [(d1, List.replicate n 7), (d1 + (n : Int) + 1 + d3, [9, 0])] [t1, t2] H5 p (by omega) (by omega) z0 z1 hs5 ((Same.but (same_new hpl)).trans hb5) hp gL' (.cons ⟨f2, p1, f1, aT1, aP1⟩ (.cons ⟨f3, p9, f9, aT2, a9⟩ .nil)) (show 2 ≤ 2 by decide) (fun z hz => ⟨d10, by rw [List.length_replicate]; omega, by rw [List.length_replicate]; omega, by rw [List.length_replicate]; omega, show (1 : Int) ≤ 2 by decide, by show d1 + (n : Int) + 1 + d3 + 2 ≤ z; omega, True.intro⟩) (fun s hs => by
        rcases List.mem_cons.mp hs with rfl | hs
        · exact r7
        · rw [List.mem_singleton.mp hs]
          exact (show ([9, 0] : List Int).all inByte = true ∧ ([9, 0] : List Int).length ≤ 3 by decide))
end
abbrev s__law_spec : Stmt := topS 73
abbrev N__law_spec : List Str := ["_law_source_here", "_law_name", "_law_names", "_law_bits", "_law_time_here", "_law_kind_here"]
theorem sc__law_spec : FnScope N__law_spec ["_law_source_here", "_law_name", "_law_names"] (defScope s__law_spec) := ⟨rfl, rfl, rfl, by decide +kernel, rfl, by decide +kernel, by decide +kernel⟩
section
variable {P : Program} {w : World} {K : PySem.W.Frag} {mg : Str → Option Value} {base : Heap}
def spSpecH : Sp := fun vs H Q _ => ∃ (a N : Addr) (u : Nat) (z : Str) (zs : List Str), vs = [.ref a, .str z, .ref N] ∧ SrcB u H a ∧ u ≤ 800000 ∧ PathD z ∧ H N = some (.lst (zs.map V.str)) ∧ 1 ≤ zs.length ∧ zs.length ≤ 10 ∧ (∀ z ∈ zs, PathD z) ∧ ∀ p (m : Mem) H', H p = none → m.TuN H H' p → m.Ok ∧ m.Two ∧ PathD m.nm → SrcB (u + 604) H' a → But a H H' → Q (.ref p) H'
theorem sp_specH {a N : Addr} {u : Nat} {z : Str} {zs : List Str} {H : Hp} {Q : VK} {E : XK} (hs : SrcB u H a) (hu : u ≤ 800000) (hz : PathD z) (hN : H N = some (.lst (zs.map V.str))) (l1 : 1 ≤ zs.length) (l2 : zs.length ≤ 10) (hall : ∀ z ∈ zs, PathD z) (k : ∀ p (m : Mem) H', H p = none → m.TuN H H' p → m.Ok ∧ m.Two ∧ PathD m.nm → SrcB (u + 604) H' a → But a H H' → Q (.ref p) H') : spSpecH ([.ref a, .str z, .ref N] ++ []) H Q E := ⟨a, N, u, z, zs, rfl, hs, hu, hz, hN, l1, l2, hall, k⟩
theorem ok_spec {f : Addr} {fd : FuncData} {k : Nat} (F : Fun K "_law_spec" "_law_spec" s__law_spec f fd) (m1 : mg "len" = none) (c_draw : CalT P w K mg base 2 "_law_draw" spDraw) (c_stamps : CalT P w K mg base 3 "_law_stamps" spStamps) (c_numbers : CalT P w K mg base 3 "_law_numbers" spNums) (c_pieces : CalT P w K mg base 3 "_law_pieces" spPcs) :
    FnOk P w K mg base CX0 (k + 4) f fd ["_law_source_here", "_law_name", "_law_names"] spSpecH := by
  refine F.ok sc__law_spec (fun vs H Q E h => ?_) (fun cdv A outer s H vs Q E hr h => ?_)
  · obtain ⟨a, N, u, z, zs, rfl, _⟩ := h
    rfl
  · obtain ⟨a, N, u, z, zs, rfl, hs, hu9, hz, hN, hl1, hl2, hall, q⟩ := h
    have hu := hu_of hr
    have nd := sc__law_spec.nd
    refine ⟨_, (pss_cons (ps_asg (pe_cc c_stamps hr (by omega) (by rfl) (pa_cons (pv 0) pa_nil)) (pg_tupK K (pg_tup rfl (pgs_cons (pg_name (i := 3) nd rfl (Or.inl rfl)) (pgs_cons (pg_name (i := 4) nd rfl (Or.inl rfl)) pgs_nil)))))
      (pss_cons (ps_set (i := 5) nd rfl (Or.inl rfl) (pe_ix (ix_listK K) (pe_lst (pa_cons pe_str (pa_cons pe_str (pa_cons pe_str (pa_cons pe_str (pa_cons pe_str (pa_cons pe_str (pa_cons pe_str pa_nil)))))))) (pe_cc c_draw hr (by omega) (by rfl) (pa_cons (pv 0) (pa_cons pe_int pa_nil))) (fun _ _ => rfl)))
      (pss_cons (ps_if (pt_cmpR op_eq (pv 5) pe_str (nomark _))
        (pss_one (ps_ret (pe_tup (pa_cons (pv 5) (pa_cons (pv 1) (pa_cons (pv 3) (pa_cons (pv 4) (pa_cons (pe_cc c_numbers hr (by omega) (by rfl) (pa_cons (pv 0) pa_nil)) pa_nil))))))))
        pss_nil)
      (pss_cons (ps_if (pt_cmpR op_eq (pv 5) pe_str (nomark _))
        (pss_one (ps_ret (pe_tup (pa_cons (pv 5) (pa_cons (pv 1) (pa_cons (pv 3) (pa_cons (pv 4) pa_nil)))))))
        pss_nil)
      (pss_cons (ps_if (pt_cmpR op_eq (pv 5) pe_str (nomark _))
        (pss_one (ps_ret (pe_tup (pa_cons (pv 5) (pa_cons (pv 1) (pa_cons (pv 3) (pa_cons (pv 4) (pa_cons (pe_cc c_pieces hr (by omega) (by rfl) (pa_cons (pv 0) pa_nil)) pa_nil))))))))
        pss_nil)
      (pss_cons (ps_if (pt_cmpR op_eq (pv 5) pe_str (nomark _))
        (pss_one (ps_ret (pe_tup (pa_cons (pv 5) (pa_cons (pv 1) (pa_cons (pv 3) (pa_cons (pv 4) (pa_cons (pe_ix (ix_listK K) (pe_lst (pa_cons pe_str (pa_cons pe_str (pa_cons pe_str (pa_cons (pe_op op_mulS pe_str pe_int) (pa_cons pe_str pa_nil)))))) (pe_cc c_draw hr (by omega) (by rfl) (pa_cons (pv 0) (pa_cons pe_int pa_nil))) (fun _ _ => rfl)) pa_nil))))))))
        pss_nil)
      (pss_one (ps_ret (pe_tup (pa_cons (pv 5) (pa_cons (pv 1) (pa_cons (pv 3) (pa_cons (pv 4) (pa_cons (pe_ix (ix_listK K) (pv 2) (pe_cc c_draw hr (by omega) (by rfl) (pa_cons (pv 0) (pa_cons (pe_callB (call_lenK K) (by rfl) (by assumption) (by decide +kernel) (pa_cons (pv 2) pa_nil)) pa_nil))) (fun _ _ => rfl)) pa_nil)))))))))))))), ?_⟩
    walk_at "rd"
    refine sp_stamps hs (by omega) fun p b t H1 hp gp b0 b1 t0 t1 hs1 hb1 => ?_
    walk_at "rd"
    rename_i pl hpl
    refine sp_draw (hs1.new hpl) (by omega) (by decide) (by decide) fun d H2 d0 d1 hs2 hb2 => ?_
    obtain ⟨v, hv, hat⟩ := pick_at (xs := [V.str "file", V.str "file", V.str "directory", V.str "symlink", V.str "link", V.str "link", V.str "sparse"]) d0 d1
    refine r_ixL (SqL.of (hb2 pl _ (hs1.ne hpl) upd_same)) hat ?_
    have bb : But a H H2 := (hb1.trans (Same.but (same_new hpl))).trans hb2
    have nN := src_strs hs.src hN
    have hN2 := bb _ _ nN hN
    have back2 := back_fun hs.src hs2.src bb
    have st : stampOk z b t := ⟨hz.name, b0, b1, t0, t1⟩
    have hk : v = .str "file" ∨ v = .str "directory" ∨ v = .str "symlink" ∨ v = .str "link" ∨ v = .str "sparse" := by
      simp only [List.mem_cons, List.not_mem_nil, or_false] at hv
      rcases hv with h | h | h | h | h | h | h <;> simp [h]
    rcases hk with rfl | rfl | rfl | rfl | rfl
    · walk_at "rd"
      refine r_iteD (fun _ => ?_) (fun h => absurd rfl h)
      walk_at "rd"
      refine sp_nums hs2 (by omega) fun dl ns H3 hdl gd hl3 hin hs3 hb3 => ?_
      walk_at "rd"
      rename_i p9 hp9
      have b3 := bb.trans hb3
      exact q p9 (.file z b t ns) _ (back_fun hs.src hs3.src b3 _ hp9) (fun H9 y => ⟨dl, y _ _ (back_fun hs.src hs3.src b3 _ hp9) upd_same, y _ _ (back2 _ hdl) (upd_old hp9 gd)⟩) ⟨⟨st, by omega, hin⟩, hl3, hz⟩ ((hs3.mono (by omega)).new hp9) (b3.trans (Same.but (same_new hp9)))
    · walk_at "rd"
      refine r_iteD (fun _ => ?_) (fun h => absurd rfl h)
      walk_at "rd"
      rename_i p9 hp9
      exact q p9 (.dir z b t) _ (back2 _ hp9) (fun H9 y => y _ _ (back2 _ hp9) upd_same) ⟨st, True.intro, hz⟩ ((hs2.mono (by omega)).new hp9) (bb.trans (Same.but (same_new hp9)))
    · walk_at "rd"
      refine r_iteD (fun _ => ?_) (fun h => absurd rfl h)
      walk_at "rd"
      rename_i p7 hp7
      refine sp_draw (hs2.new hp7) (by omega) (by decide) (by decide) fun d H3 d0 d1 hs3 hb3 => ?_
      obtain ⟨v, hv, hat⟩ := pick_at (xs := [V.str "a", V.str "../b", V.str "/", V.str (repZ "x" 120), V.str "a//."]) d0 d1
      obtain ⟨g, rfl, hg⟩ : ∃ g, v = .str g ∧ nameB g = true := by
        simp only [List.mem_cons, List.not_mem_nil, or_false] at hv
        rcases hv with rfl | rfl | rfl | rfl | rfl <;> exact ⟨_, rfl, by decide +kernel⟩
      refine r_ixL (SqL.of (hb3 p7 _ (hs2.ne hp7) upd_same)) hat ?_
      walk_at "rd"
      rename_i p9 hp9
      have b3 := (bb.trans (Same.but (same_new hp7))).trans hb3
      exact q p9 (.sym z b t g) _ (back_fun hs.src hs3.src b3 _ hp9) (fun H9 y => y _ _ (back_fun hs.src hs3.src b3 _ hp9) upd_same) ⟨⟨st, hg⟩, True.intro, hz⟩ ((hs3.mono (by omega)).new hp9) (b3.trans (Same.but (same_new hp9)))
    · walk_at "rd"
      refine sp_draw hs2 (by omega) (by rw [List.length_map]; omega) (by rw [List.length_map]; omega) fun d H3 d0 d1 hs3 hb3 => ?_
      obtain ⟨v, hv, hat⟩ := pick_at (xs := zs.map V.str) d0 d1
      obtain ⟨g, hg, rfl⟩ := List.mem_map.mp hv
      refine r_ixL (SqL.of (hb3 _ _ nN hN2)) hat ?_
      walk_at "rd"
      rename_i p9 hp9
      have b3 := bb.trans hb3
      exact q p9 (.lnk z b t g) _ (back_fun hs.src hs3.src b3 _ hp9) (fun H9 y => y _ _ (back_fun hs.src hs3.src b3 _ hp9) upd_same) ⟨⟨st, (hall g hg).name⟩, True.intro, hz⟩ ((hs3.mono (by omega)).new hp9) (b3.trans (Same.but (same_new hp9)))
    · walk_at "rd"
      refine r_iteD (fun _ => ?_) (fun h => absurd rfl h)
      walk_at "rd"
      refine ⟨a, _, rfl, hs2, by omega, fun q9 z9 sp H3 pn z0 z1 l2 hso hall3 hs3 hb3 => ?_⟩
      obtain ⟨dl, as, f1, f2, g1, g2, g3⟩ := pn
      walk_at "rd"
      rename_i p9 hp9
      have b3 := bb.trans hb3
      exact q p9 (.sparse z b t z9 sp) _ (back_fun hs.src hs3.src b3 _ hp9) (fun H9 y => ⟨q9, dl, y _ _ (back_fun hs.src hs3.src b3 _ hp9) upd_same, y _ _ (back2 _ f1) (upd_old hp9 g1), as, y _ _ (back2 _ f2) (upd_old hp9 g2), Paired.mapP g3 fun x s ⟨k1, e, k2, k3, k4⟩ => ⟨e, y _ _ (back2 _ k1) (upd_old hp9 k3), y _ _ (back2 _ k2) (upd_old hp9 k4)⟩⟩) ⟨⟨st, z0, by omega, by omega, hso, fun s hs => (hall3 s hs).1⟩, ⟨l2, fun s hs => (hall3 s hs).2, z1⟩, hz⟩ ((hs3.mono (by omega)).new hp9) (b3.trans (Same.but (same_new hp9)))
end
abbrev s__law_specs : Stmt := topS 74
abbrev N__law_specs : List Str := ["_law_source_here", "_law_most", "_law_turn", "_law_names", "_law_found", "_law_name"]
theorem sc__law_specs : FnScope N__law_specs ["_law_source_here", "_law_most"] (defScope s__law_specs) := ⟨rfl, rfl, rfl, by decide +kernel, rfl, by decide +kernel, by decide +kernel⟩
/-- drawn members as tuples, all new -/
def TNewH (H H' : Hp) (as : List Addr) (ms : List Mem) : Prop := Paired (fun q m => Mem.TuN H H' q m ∧ m.Ok ∧ m.Two ∧ PathD m.nm) as ms
theorem TNewH.to {H H' H2 : Hp} {as : List Addr} {ms : List Mem} (h : TNewH H H' as ms) (y : ∀ b o, H b = none → H' b = some o → H2 b = some o) : TNewH H H2 as ms := Paired.mapP h fun q m ⟨h1, h2⟩ => ⟨h1.to y, h2⟩
theorem TNewH.from {H0 H H' : Hp} {as : List Addr} {ms : List Mem} (h : TNewH H H' as ms) (y : ∀ b, H b = none → H0 b = none) : TNewH H0 H' as ms := Paired.mapP h fun q m ⟨h1, h2⟩ => ⟨h1.from y, h2⟩
section
variable {P : Program} {w : World} {K : PySem.W.Frag} {mg : Str → Option Value} {base : Heap}
def spSpecs : Sp := fun vs H Q _ => ∃ (a : Addr) (u n : Nat), vs = [.ref a, .int (n : Int)] ∧ SrcB u H a ∧ u ≤ 700000 ∧ n ≤ 12 ∧ ∀ p as ms H', H p = none → H' p = some (.lst (as.map V.ref)) → TNewH H H' as ms → ms.length ≤ n → SrcB (u + 8000) H' a → But a H H' → Q (.ref p) H'
theorem sp_specs {a : Addr} {u n : Nat} {H : Hp} {Q : VK} {E : XK} (hs : SrcB u H a) (hu : u ≤ 700000) (hn : n ≤ 12) (k : ∀ p as ms H', H p = none → H' p = some (.lst (as.map V.ref)) → TNewH H H' as ms → ms.length ≤ n → SrcB (u + 8000) H' a → But a H H' → Q (.ref p) H') : spSpecs ([.ref a, .int (n : Int)] ++ []) H Q E := ⟨a, u, n, rfl, hs, hu, hn, k⟩
theorem ok_specs {f : Addr} {fd : FuncData} {k : Nat} (F : Fun K "_law_specs" "_law_specs" s__law_specs f fd) (m1 : mg "len" = none) (m2 : mg "range" = none) (c_draw : CalT P w K mg base 2 "_law_draw" spDraw) (c_path : CalT P w K mg base 3 "_law_path" spPathH) (c_spec : CalT P w K mg base 4 "_law_spec" spSpecH) :
    FnOk P w K mg base CX0 (k + 5) f fd ["_law_source_here", "_law_most"] spSpecs := by
  refine F.ok sc__law_specs (fun vs H Q E h => ?_) (fun cdv A outer s H vs Q E hr h => ?_)
  · obtain ⟨a, u, n, rfl, _⟩ := h
    rfl
  · obtain ⟨a, u, n, rfl, hs, hu9, hn, q⟩ := h
    have hu := hu_of hr
    have nd := sc__law_specs.nd
    refine ⟨_, (pss_cons (ps_setLc (i := 3) (own := [("_law_turn", 2)]) (g := (gName 2)) (tt := tYes) rfl nd rfl rfl (sw_true rfl rfl rfl (by decide +kernel)) (pi_range1 (by rfl) (by assumption) (pa_cons (pe_op op_add pe_int (pe_cc c_draw hr (by omega) (by rfl) (pa_cons (pv 0) (pa_cons pe_int pa_nil)))) pa_nil)) (blkOk_by (N := N__law_specs) (sc := defScope s__law_specs) (by decide +kernel)) (fun _ _ _ _ _ => (pg_name (i := 2) nd rfl (Or.inl rfl))) (fun _ _ _ _ _ => pts_nil) (fun _ _ _ _ _ => (pe_cc c_path hr (by omega) (by rfl) (pa_cons (pv 0) pa_nil))))
      (pss_cons (ps_par (i := 3) (j := 4) rfl nd rfl rfl (by decide) rfl rfl (pa_cons (pe_op op_cat (pv 3) (pe_lc (own := [("_law_name", 5)]) (g := (gName 5)) (tt := tYes) rfl nd (pi_list (pv 3)) (blkOk_by (N := N__law_specs) (sc := defScope s__law_specs) (by decide +kernel)) (fun _ _ _ _ _ => (pg_name (i := 5) nd rfl (Or.inl rfl))) (fun _ _ _ _ _ => pts_nil) (fun _ _ _ _ _ => (pe_ix (ix_listK K) (pe_splitN (pe_split (pv 5) pe_str)) pe_int (fun _ _ => rfl))))) (pa_cons (pe_lst pa_nil) pa_nil)) (by rfl))
      (pss_cons (ps_for PassesOwn.never rfl (pi_range1 (by rfl) (by assumption) (pa_cons (pe_cc c_draw hr (by omega) (by rfl) (pa_cons (pv 0) (pa_cons (pe_op op_add (pv 1) pe_int) pa_nil))) pa_nil)) (pg_name (i := 2) nd rfl (Or.inl rfl))
        (pss_one (ps_expr (pe_bm PySem.F.plainAttrs_list PySem.F.slot_list_append PySem.F.type_list_append mt_append (pv 4) (pa_cons (pe_cc c_spec hr (by omega) (by rfl) (pa_cons (pv 0) (pa_cons (pe_ix (ix_listK K) (pv 3) (pe_cc c_draw hr (by omega) (by rfl) (pa_cons (pv 0) (pa_cons (pe_callB (call_lenK K) (by rfl) (by assumption) (by decide +kernel) (pa_cons (pv 3) pa_nil)) pa_nil))) (fun _ _ => rfl)) (pa_cons (pv 3) pa_nil)))) pa_nil)))))
      (pss_one (ps_ret (pv 4)))))), ?_⟩
    walk_at "rd"
    refine sp_draw hs (by omega) (by decide) (by decide) fun d H1 d0 d1 hs1 hb1 => ?_
    obtain ⟨m, rfl⟩ := Int.eq_ofNat_of_zero_le d0
    walk_at "rd"
    intro L hL
    have nL : L ≠ a := hs1.ne hL
    refine lc_it (walk_range (lo := 0) (n := _)) (fun i H' => SrcB (u + 1 + 5 * i) H' a ∧ But a H1 H' ∧ ∃ zs : List Str, H' L = some (.lst (zs.map V.str)) ∧ zs.length = i ∧ ∀ z ∈ zs, PathD z) ⟨hs1.new hL, Same.but (same_new hL), [], upd_same, rfl, fun _ h => nomatch h⟩ (fun _ _ _ _ => True.intro) ?_ ?_
    · rintro i v Hc H' hi ⟨hs', hb', zs, hL', hl', hz'⟩ ⟨rfl, hv⟩
      have hi5 : i < 5 := by omega
      walk_at "rd"
      refine ⟨rfl, ?_⟩
      unfold tYes
      dsimp only
      rw [if_pos rfl]
      walk_at "rd"
      refine sp_pathH hs' (by omega) fun z H2 hz hs2 hb2 => ?_
      have hL2 := hb2 _ _ nL hL'
      refine ⟨_, hL2, Nat.lt_of_le_of_lt (by rw [List.length_map]; omega : _ ≤ 10) (by decide), ?_, fun b o nb eo => ?_, zs ++ [z], by rw [upd_same, List.map_append]; rfl, by rw [List.length_append, hl']; rfl, fun y hy => ?_⟩
      · obtain ⟨l, m, c, g, r⟩ := hs2
        exact ⟨l, m, c, upd_diff nL.symm g, r⟩
      · rw [upd_ne (ne_of_none eo hL)]
        exact hb2 _ _ nb (hb' _ _ nb eo)
      · rcases List.mem_append.mp hy with hy | hy
        · exact hz' y hy
        · rw [List.mem_singleton.mp hy]
          exact hz
    · rintro H3 ⟨hs3, hb3, zs, hL3, hl3, hz3⟩
      walk_at "rd"
      intro D hD
      refine lc_it (walk_list (xs := zs.map V.str)) (fun i H' => SrcB (u + 30) H' a ∧ But a H3 H' ∧ ∃ ys : List Str, H' D = some (.lst (ys.map V.str)) ∧ ys.length = i ∧ ∀ z ∈ ys, PathD z) ⟨(hs3.mono (by omega)).new hD, Same.but (same_new hD), [], upd_same, rfl, fun _ h => nomatch h⟩ (fun i H' _ ⟨_, e, _⟩ => SqL.of (e _ _ nL hL3)) ?_ ?_
      · rintro i v Hc H' hi ⟨hs', hb', ys, hD', hl', hz'⟩ ⟨rfl, hv⟩
        rw [List.getElem?_map] at hv
        obtain ⟨z, hz, rfl⟩ := Option.map_eq_some_iff.mp hv
        obtain ⟨p, r, e, hp, hl⟩ := (hz3 z (List.mem_of_getElem? hz)).split
        have nD : D ≠ a := hs3.ne hD
        walk_at "rd"
        refine ⟨rfl, ?_⟩
        unfold tYes
        dsimp only
        rw [if_pos rfl]
        walk_at "rd"
        refine r_split (by decide +kernel) (Nat.le_trans (by omega : z.length + 2 ≤ 1000) (by decide)) fun q0 hq0 => ?_
        walk_at "rd"
        refine r_ixL (v := .str p) (SqL.of upd_same) (by rw [e]; exact atI_nat (j := 0) rfl) ?_
        refine ⟨_, upd_old hq0 hD', Nat.lt_of_le_of_lt (by rw [List.length_map]; have : zs.length ≤ 10 := by omega
                                                           have : i < zs.length := by simpa using hi
                                                           omega : _ ≤ 10) (by decide), ?_, fun b o nb eo => ?_, ys ++ [p], by rw [upd_same, List.map_append]; rfl, by rw [List.length_append, hl']; rfl, fun y hy => ?_⟩
        · obtain ⟨l, m, c, g, r⟩ := hs'.new hq0 (o := .lst ((Txt.split z "/").map V.str))
          exact ⟨l, m, c, upd_diff nD.symm g, r⟩
        · rw [upd_ne (ne_of_none eo hD)]
          exact upd_old hq0 (hb' _ _ nb eo)
        · rcases List.mem_append.mp hy with hy | hy
          · exact hz' y hy
          · rw [List.mem_singleton.mp hy]
            exact hp
      · rintro H4 ⟨hs4, hb4, ys, hD4, hl4, hz4⟩
        rw [List.length_map] at hl4
        walk_at "rd"
        refine r_cat (hb4 _ _ nL hL3) hD4 (Nat.le_trans (by rw [List.length_map, List.length_map]; omega : _ ≤ 100) (by decide)) fun N hN => ?_
        have nN : N ≠ a := hs4.ne hN
        walk_at "rd"
        rename_i R hR
        have gN0 : upd H4 N (.lst (zs.map V.str ++ ys.map V.str)) N = some (.lst ((zs ++ ys).map V.str)) := by rw [upd_same, List.map_append]
        have hs5 : SrcB (u + 30) (upd H4 N (.lst (zs.map V.str ++ ys.map V.str))) a := hs4.new hN
        have hb5 : But a H (upd H4 N (.lst (zs.map V.str ++ ys.map V.str))) := ((hb1.trans hb3).trans hb4).trans (Same.but (same_new hN))
        generalize upd H4 N (.lst (zs.map V.str ++ ys.map V.str)) = H5 at hR gN0 hs5 hb5 ⊢
        have hall : ∀ z ∈ zs ++ ys, PathD z := fun z hz => (List.mem_append.mp hz).elim (hz3 z) (hz4 z)
        have hl1 : 1 ≤ (zs ++ ys).length := by rw [List.length_append]; omega
        have hl2 : (zs ++ ys).length ≤ 10 := by rw [List.length_append]; omega
        generalize zs ++ ys = ws at gN0 hall hl1 hl2
        have nR : R ≠ a := hs5.ne hR
        have nNR : N ≠ R := ne_of_none gN0 hR
        clear hL3 hl3 hz3 hb3 hs3 hb4 hD4 hl4 hz4 hs4
        refine sp_draw (hs5.new hR) (by omega) (by omega) (by omega) (fun d H6 d0 d1 hs6 hb6 => ?_)
        have gR6 := hb6 _ _ nR upd_same
        have b6 : But a H H6 := hb5.trans (hb6.new hR)
        have hdR : upd H5 R (.lst []) R = some (.lst []) := upd_same
        have hN5 : upd H5 R (.lst []) N = some (.lst (ws.map V.str)) := upd_old hR gN0
        walk_at "rd"
        refine for_it (walk_range (lo := 0) (n := d.toNat)) (fun i σ H' => ∃ (v : Option V) (as : List Addr) (ms : List Mem), σ = [some (.ref a), some (.int (n : Int)), v, some (.ref N), some (.ref R), none] ∧ SrcB (u + 31 + 605 * i) H' a ∧ But a H5 H' ∧ H' R = some (.lst (as.map V.ref)) ∧ TNewH (upd H5 R (.lst [])) H' as ms ∧ ms.length = i) ?_ (fun _ _ _ _ _ => True.intro) ?_ ?_
        · exact ⟨_, [], [], rfl, hs6, hb6.new hR, gR6, .nil, rfl⟩
        · rintro i x σ Hc H' hi ⟨v, as, ms, rfl, hs', hb', hD', hn', hl'⟩ ⟨rfl, hx⟩
          have hi12 : i ≤ 12 := by omega
          have gN' := hb' _ _ nN gN0
          walk_at "rd"
          refine sp_draw hs' (by omega) (by rw [List.length_map]; omega) (by rw [List.length_map]; omega) (fun e H2 e0 e1 hs2 hb2 => ?_)
          obtain ⟨v, hv, hat⟩ := pick_at (xs := ws.map V.str) e0 e1
          obtain ⟨g, hg, rfl⟩ := List.mem_map.mp hv
          have gN2 := hb2 _ _ nN gN'
          have gR2 := hb2 _ _ nR hD'
          refine r_ixL (SqL.of gN2) hat ?_
          walk_at "rd"
          refine sp_specH hs2 (by omega) (hall g hg) gN2 hl1 hl2 (hall) fun p m H3 hp hm hok hs3 hb3 => ?_
          have gR3 := hb3 _ _ nR gR2
          have hal : as.length = ms.length := Paired.length hn'
          walk_at "rd"
          refine r_append gR3 (Nat.lt_of_le_of_lt (by rw [List.length_map]; omega : _ ≤ 100) (by decide)) ?_
          have hs51 : Src (upd H5 R (.lst [])) a := (hs5.new hR).src
          have hback : ∀ b, H2 b = none → upd H5 R (.lst []) b = none := fun b hb => by
            rw [upd_ne (ne_of_none gR2 hb).symm]
            exact But.back hs5.src hs2.src (hb'.trans hb2) hb
          have hna : ∀ b, upd H5 R (.lst []) b = none → b ≠ a ∧ b ≠ R := fun b hb => ⟨hs51.ne hb, (ne_of_none hdR hb).symm⟩
          refine ⟨some _, as ++ [p], ms ++ [m], rfl, ?_, fun b o nb eo => ?_, by rw [upd_same, List.map_append]; rfl, ?_, by rw [List.length_append, hl']; rfl⟩
          · obtain ⟨l, m', c, g, r⟩ := hs3.mono (show u + 31 + 605 * i + 1 + 604 ≤ u + 31 + 605 * (i + 1) by omega)
            exact ⟨l, m', c, upd_diff nR.symm g, r⟩
          · rw [upd_ne (ne_of_none eo hR)]
            exact hb3 _ _ nb (hb2 _ _ nb (hb' _ _ nb eo))
          · refine paired_snoc (TNewH.to hn' fun b o nb eo => ?_) ⟨(Mem.TuN.from hm hback).to fun b o nb eo => ?_, hok⟩
            · rw [upd_ne (hna b nb).2]
              exact hb3 _ _ (hna b nb).1 (hb2 _ _ (hna b nb).1 eo)
            · rw [upd_ne (hna b nb).2]
              exact eo
        · rintro σ Hc ⟨v, as, ms, rfl, hs', hb', hD', hn', hl'⟩
          walk_at "rd"
          exact q R as ms _ (But.back hs.src hs5.src hb5 hR) hD' (TNewH.from hn' fun b hb => by
            have nb : b ≠ R := (ne_of_none hdR hb).symm
            rw [upd_ne nb] at hb
            exact But.back hs.src hs5.src hb5 hb) (by omega) (hs'.mono (by omega)) (hb5.trans hb')
end
abbrev s__law_above : Stmt := topS 77
abbrev N__law_above : List Str := ["_law_name", "_law_parts", "_law_many"]
theorem sc__law_above : FnScope N__law_above ["_law_name"] (defScope s__law_above) := ⟨rfl, rfl, rfl, by decide +kernel, rfl, by decide +kernel, by decide +kernel⟩
abbrev s__law_is_path : Stmt := topS 79
abbrev N__law_is_path : List Str := ["_law_name", "_law_part"]
theorem sc__law_is_path : FnScope N__law_is_path ["_law_name"] (defScope s__law_is_path) := ⟨rfl, rfl, rfl, by decide +kernel, rfl, by decide +kernel, by decide +kernel⟩
section
variable {P : Program} {w : World} {K : PySem.W.Frag} {mg : Str → Option Value} {base : Heap}
theorem ok_labove {f : Addr} {fd : FuncData} {k : Nat} (F : Fun K "_law_above" "_law_above" s__law_above f fd) (m1 : mg "range" = none) (m2 : mg "len" = none) : FnOk P w K mg base CX0 (k + 2) f fd ["_law_name"] spAbove := by
  refine F.ok sc__law_above (fun vs H Q E h => ?_) (fun cdv A outer s H vs Q E hr h => ?_)
  · obtain ⟨z, rfl, _⟩ := h
    rfl
  · obtain ⟨z, rfl, hz, q⟩ := h
    have hu := hu_of hr
    have nd := sc__law_above.nd
    refine ⟨_, (pss_cons (ps_set (i := 1) nd rfl (Or.inr rfl) (pe_splitN (pe_split (pv 0) pe_str)))
      (pss_one (ps_ret (pe_lc (own := [("_law_many", 2)]) (g := (gName 2)) (tt := tYes) rfl nd (pi_range2 (by rfl) (by assumption) (pa_cons pe_int (pa_cons (pe_callB (call_lenK K) (by rfl) (by assumption) (by decide +kernel) (pa_cons (pv 1) pa_nil)) pa_nil))) (blkOk_by (N := N__law_above) (sc := defScope s__law_above) (by decide +kernel)) (fun _ _ _ _ _ => (pg_name (i := 2) nd rfl (Or.inl rfl))) (fun _ _ _ _ _ => pts_nil) (fun _ _ _ _ _ => (pe_bmK K PySem.F.plainAttrs_str PySem.F.slot_str_join PySem.F.type_str_join (mt_joinK K) pe_str (pa_cons (pe_slice (sl_listK K) (pv 1) po_none (po_some (pv 2))) pa_nil))))))), ?_⟩
    walk_at "rd"
    have hz' : z.length + 2 ≤ sizeLine := Nat.le_trans (Nat.add_le_add_right hz 2) (by decide)
    have hn : (Txt.split z "/").length ≤ 1002 := Nat.le_trans (PyProof.Rows.split_le z "/") (by omega)
    refine r_split (by decide) hz' fun L hL => ?_
    walk_at "rd"
    have gL : upd H L (.lst ((Txt.split z "/").map V.str)) L = some (.lst ((Txt.split z "/").map V.str)) := upd_same
    have hn1 := PyProof.Rows.split_pos z "/"
    have hml : ((Txt.split z "/").map V.str).length = (Txt.split z "/").length := List.length_map ..
    refine ⟨_, _, rfl, ⟨by decide, by decide, by omega, by omega⟩, ?_⟩
    intro D hD
    refine lc_it (walk_range (lo := 1) (n := _)) (fun i H' => Same (upd H L (.lst ((Txt.split z "/").map V.str))) H' ∧ H' D = some (.lst (((List.range i).map fun i => Txt.join "/" ((Txt.split z "/").take (i + 1))).map V.str))) ⟨same_new hD, by rw [upd_same]; rfl⟩ (fun _ _ _ _ => True.intro) ?_ ?_
    · rintro i x Hc H' hi ⟨e, hb'⟩ ⟨rfl, hx⟩
      have hi' : i < (Txt.split z "/").length - 1 := by
        rw [hml] at hi
        omega
      have hx' : x = .int (((i + 1 : Nat) : Int)) := by rw [hx]; show V.int (1 + (i : Int)) = V.int (((i + 1 : Nat) : Int)); congr 1; omega
      subst hx'
      clear hx
      walk_at "rd"
      refine ⟨rfl, ?_⟩
      unfold tYes
      dsimp only
      rw [if_pos rfl]
      walk_at "rd"
      refine ⟨rfl, ?_⟩
      walk_at "rd"
      refine r_slL (SqL.of (e _ _ gL)) fun q1 hq1 => ?_
      rw [cutV_take _ _ (by rw [hml]; omega), ← List.map_take]
      refine ⟨_, _, _, rfl, rfl, .inl (SqL.of upd_same), ?_, ?_⟩
      · have h1 := Nat.le_trans (sum_take (Txt.split z "/") (i + 1)) (sum_split z "/")
        have h2 : ((Txt.split z "/").take (i + 1)).length ≤ 1002 := by rw [List.length_take]; omega
        have h3 : ((Txt.split z "/").take (i + 1)).length * ("/" : Str).length ≤ 1002 := by
          rw [show ("/" : Str).length = 1 from rfl, Nat.mul_one]
          exact h2
        omega
      refine ⟨_, (same_new hq1) _ _ hb', Nat.lt_of_le_of_lt (by rw [List.length_map, List.length_map, List.length_range]; omega : _ ≤ 1002) (by decide), fun b o eo => by rw [upd_ne (ne_of_none eo hD)]; exact (same_new hq1) _ _ (e _ _ eo), ?_⟩
      rw [upd_same, List.range_succ, List.map_append, List.map_append]
      rfl
    · rintro H3 ⟨e, hb'⟩
      walk_at "rd"
      refine q D H3 ((same_new hL).free hD) ((same_new hL).trans e) ?_
      rw [hb', hml]
      unfold aboveP
      congr 5
      omega
def partsB (z : Str) : Bool := !(Txt.split z "/").any noPart
theorem sp_above {z : Str} {H : Hp} {Q : VK} {E : XK} (hz : z.length ≤ 1000) (k : ∀ p H', H p = none → Same H H' → H' p = some (.lst ((aboveP z).map V.str)) → Q (.ref p) H') : spAbove ([.str z] ++ []) H Q E := ⟨z, rfl, hz, k⟩
def spLIsPath : Sp := fun vs H Q _ => ∃ z : Str, vs = [.str z] ∧ z.length ≤ 1000 ∧ ∀ H', Same H H' → Q (.bl (partsB z)) H'
theorem sp_lispath {z : Str} {H : Hp} {Q : VK} {E : XK} (hz : z.length ≤ 1000) (k : ∀ H', Same H H' → Q (.bl (partsB z)) H') : spLIsPath ([.str z] ++ []) H Q E := ⟨z, rfl, hz, k⟩
theorem ok_lispath {f : Addr} {fd : FuncData} {k : Nat} (F : Fun K "_law_is_path" "_law_is_path" s__law_is_path f fd) (m1 : mg "all" = none) : FnOk P w K mg base CX0 (k + 2) f fd ["_law_name"] spLIsPath := by
  refine F.ok sc__law_is_path (fun vs H Q E h => ?_) (fun cdv A outer s H vs Q E hr h => ?_)
  · obtain ⟨z, rfl, _⟩ := h
    rfl
  · obtain ⟨z, rfl, hz, q⟩ := h
    have hu := hu_of hr
    have nd := sc__law_is_path.nd
    refine ⟨_, (pss_one (ps_ret (pe_callB (call_allK K) (by rfl) (by assumption) (by decide +kernel) (pa_cons (pe_lc (own := [("_law_part", 1)]) (g := (gName 1)) (tt := tYes) rfl nd (pi_list (pe_splitN (pe_split (pv 0) pe_str))) (blkOk_by (N := N__law_is_path) (sc := defScope s__law_is_path) (by decide +kernel)) (fun _ _ _ _ _ => (pg_name (i := 1) nd rfl (Or.inl rfl))) (fun _ _ _ _ _ => pts_nil) (fun _ _ _ _ _ => (pe_cmpR (op_notInK K) (pv 1) (pe_tup (pa_cons pe_str (pa_cons pe_str (pa_cons pe_str pa_nil)))) (by rfl)))) pa_nil)))), ?_⟩
    walk_at "rd"
    have hz' : z.length + 2 ≤ sizeLine := Nat.le_trans (Nat.add_le_add_right hz 2) (by decide)
    have hn : (Txt.split z "/").length ≤ 1002 := Nat.le_trans (PyProof.Rows.split_le z "/") (by omega)
    refine r_split (by decide) hz' fun L hL => ?_
    refine ⟨L, rfl, ⟨_, SqL.of upd_same⟩, ?_⟩
    intro D hD
    refine lc_map (cs := Txt.split z "/") (enc := V.str) (f := fun p => V.bl (!noPart p)) walk_list hD (Nat.lt_of_le_of_lt hn (by decide)) (fun H' e => SqL.of (e _ _ upd_same)) (fun x => rfl) ?_ ?_
    · intro p hp H' e Q' k'
      walk_at "rd"
      rename_i t0 ht0
      refine ⟨t0, _, rfl, .inr (SqT.of upd_same), rfl, rfl, ?_⟩
      show Q' (.bl (!inV (.str p) [.str "", .str ".", .str ".."])) _
      rw [show inV (.str p) [.str "", .str ".", .str ".."] = noPart p by simp [inV, noPart, eqV]]
      exact k' _ (same_new ht0)
    · intro H' e hl
      walk_at "rd"
      refine r_all (bs := (Txt.split z "/").map fun p => !noPart p) (by rw [List.map_map]; exact SqL.of hl) ?_
      show Q _ _
      rw [show ((Txt.split z "/").map fun p => !noPart p).all id = partsB z by unfold partsB; rw [List.all_map, List.not_any_eq_all_not]; rfl]
      exact q _ ((same_new hL).trans e)
end
abbrev s__law_tree : Stmt := topS 75
abbrev N__law_tree : List Str := []
theorem sc__law_tree : FnScope N__law_tree [] (defScope s__law_tree) := ⟨rfl, rfl, rfl, by decide +kernel, rfl, by decide +kernel, by decide +kernel⟩
abbrev s__law_copied : Stmt := topS 76
abbrev N__law_copied : List Str := ["_law_tree_here"]
theorem sc__law_copied : FnScope N__law_copied ["_law_tree_here"] (defScope s__law_copied) := ⟨rfl, rfl, rfl, by decide +kernel, rfl, by decide +kernel, by decide +kernel⟩
abbrev s__law_kind : Stmt := topS 78
abbrev N__law_kind : List Str := ["_law_tree_here", "_law_name"]
theorem sc__law_kind : FnScope N__law_kind ["_law_tree_here", "_law_name"] (defScope s__law_kind) := ⟨rfl, rfl, rfl, by decide +kernel, rfl, by decide +kernel, by decide +kernel⟩
theorem call_listK {X : Cx} (K : PySem.W.Frag) (h : X.K = K := by rfl) : CallR X (.type "list") (fun xs H Q => ∃ p ys, xs = [.ref p] ∧ (SqL K H p ys ∨ SqT K H p ys) ∧ ∀ l, H l = none → Q (.ref l) (upd H l (.lst ys))) := h ▸ call_list_of
/-! ### the law's own tree -/
/-- what stands at a path of the law's tree: a file by its number -/
inductive LT where
  | dir (m t : Int)
  | fil (i : Nat)
  | sym (g : Str) (m t : Int)
def LT.vals : LT → List V
  | .dir m t => [.str "directory", .int m, .int t]
  | .fil i => [.str "file", .int (i : Int)]
  | .sym g m t => [.str "symlink", .str g, .int m, .int t]
def LT.kind : LT → Str
  | .dir .. => "directory"
  | .fil .. => "file"
  | .sym .. => "symlink"
theorem LT.vals0 (x : LT) : ∃ r, x.vals = .str x.kind :: r := by cases x <;> exact ⟨_, rfl⟩
def LT.At (H : Hp) (v : V) (x : LT) : Prop := ∃ t, v = .ref t ∧ H t = some (.tup x.vals)
/-- a file of the law's tree: its bytes, its mode, its time -/
structure LFl where
  ns : List Int
  m : Int
  t : Int
/-- its list of bytes is neither the list F of the files nor the source B -/
def LFl.At (H : Hp) (B F : Addr) (v : V) (x : LFl) : Prop := ∃ q e, v = .ref q ∧ H q = some (.tup [.str "file", .ref e, .int x.m, .int x.t]) ∧ H e = some (.lst (x.ns.map V.int)) ∧ e ≠ F ∧ e ≠ B
structure LTr where
  at' : List (Str × LT)
  files : List LFl
theorem LT.At.same {H H' : Hp} {v : V} {x : LT} (e : Same H H') (h : LT.At H v x) : LT.At H' v x := by
  obtain ⟨t, h1, h2⟩ := h
  exact ⟨t, h1, e _ _ h2⟩
theorem LFl.At.same {H H' : Hp} {B F : Addr} {v : V} {x : LFl} (e : Same H H') (h : LFl.At H B F v x) : LFl.At H' B F v x := by
  obtain ⟨q, d, h1, h2, h3, h4⟩ := h
  exact ⟨q, d, h1, e _ _ h2, e _ _ h3, h4⟩
theorem LFl.At.move {H : Hp} {B F F' : Addr} {v : V} {x : LFl} (n : H F' = none) (h : LFl.At H B F v x) : LFl.At H B F' v x := by
  obtain ⟨q, d, h1, h2, h3, _, h5⟩ := h
  exact ⟨q, d, h1, h2, h3, ne_of_none h3 n, h5⟩
/-- a law's tree: its dict T, the dict A of its paths, the list F of its files -/
structure LTI (H : Hp) (B T A F : Addr) (ps : List (Key × V)) (vs : List V) (l : LTr) : Prop where
  tr : H T = some (.dK [(Sum.inr "at", .ref A), (Sum.inr "files", .ref F)])
  ad : H A = some (.dK ps)
  at' : TabR (LT.At H) ps l.at'
  fd : H F = some (.lst vs)
  fs : Paired (LFl.At H B F) vs l.files
  ta : T ≠ A
def LTR (H : Hp) (B T : Addr) (l : LTr) : Prop := ∃ A F ps vs, LTI H B T A F ps vs l
theorem LTI.same {H H' : Hp} {B T A F : Addr} {ps : List (Key × V)} {vs : List V} {l : LTr} (e : Same H H') (h : LTI H B T A F ps vs l) : LTI H' B T A F ps vs l :=
  ⟨e _ _ h.tr, e _ _ h.ad, h.at'.mono fun _ _ x => x.same e, e _ _ h.fd, Paired.mapP h.fs fun _ _ x => x.same e, h.ta⟩
theorem LTR.same {H H' : Hp} {B T : Addr} {l : LTr} (e : Same H H') (h : LTR H B T l) : LTR H' B T l := by
  obtain ⟨A, F, ps, vs, g⟩ := h
  exact ⟨A, F, ps, vs, g.same e⟩
def kindL (l : LTr) (z : Str) : Str := ((look l.at' z).map LT.kind).getD "absent"
section
variable {P : Program} {w : World} {K : PySem.W.Frag} {mg : Str → Option Value} {base : Heap}
def spLTree : Sp := fun vs H Q _ => vs = [] ∧ ∀ T H', H T = none → Same H H' → (∀ B, LTR H' B T ⟨[], []⟩) → Q (.ref T) H'
theorem sp_ltree {H : Hp} {Q : VK} {E : XK} (k : ∀ T H', H T = none → Same H H' → (∀ B, LTR H' B T ⟨[], []⟩) → Q (.ref T) H') : spLTree ([] ++ []) H Q E := ⟨rfl, k⟩
theorem ok_ltree {f : Addr} {fd : FuncData} {k : Nat} (F : Fun K "_law_tree" "_law_tree" s__law_tree f fd) : FnOk P w K mg base CX0 (k + 2) f fd [] spLTree := by
  refine F.ok sc__law_tree (fun vs H Q E h => ?_) (fun cdv A outer s H vs Q E hr h => ?_)
  · obtain ⟨rfl, _⟩ := h
    rfl
  · obtain ⟨rfl, q⟩ := h
    have hu := hu_of hr
    have nd := sc__law_tree.nd
    refine ⟨_, (pss_one (ps_ret (pe_disp (pps_cons pe_str pe_dnewK (pps_cons pe_str (pe_lst pa_nil) pps_nil)) rfl rfl (by intro h; cases h) (by decide)))), ?_⟩
    refine r_disp fun T hT => r_pcons ?_
    walk_at "rd"
    rename_i A hA
    refine r_pcons ?_
    walk_at "rd"
    rename_i F hF
    have e1 := same_new (o := HO.dK []) hT
    have e2 := same_new (o := HO.dK []) hA
    have e3 := same_new (o := HO.lst []) hF
    have nAT : A ≠ T := (ne_of_none upd_same hA).symm
    have nFT : F ≠ T := (ne_of_none (e2 _ _ upd_same) hF).symm
    refine r_pnil ⟨e3 _ _ (e2 _ _ upd_same), [(Sum.inr "at", .ref A), (Sum.inr "files", .ref F)], rfl, (show 2 ≤ 15 by decide), ?_⟩
    refine q T _ hT (fun b o h => ?_) fun B => ⟨A, F, [], [], upd_same, by rw [upd_ne nAT]; exact e3 _ _ upd_same, .nil, by rw [upd_ne nFT]; exact upd_same, .nil, nAT.symm⟩
    rw [upd_ne (ne_of_none h hT)]
    exact e3 _ _ (e2 _ _ (e1 _ _ h))
def spLCopied : Sp := fun vs H Q _ => ∃ (B T : Addr) (l : LTr), vs = [.ref T] ∧ LTR H B T l ∧ ∀ T' A' F' ps vs' H', H T' = none → H A' = none → H F' = none → Same H H' → LTI H' B T' A' F' ps vs' l → Q (.ref T') H'
theorem sp_lcopied {B T : Addr} {l : LTr} {H : Hp} {Q : VK} {E : XK} (h : LTR H B T l) (k : ∀ T' A' F' ps vs' H', H T' = none → H A' = none → H F' = none → Same H H' → LTI H' B T' A' F' ps vs' l → Q (.ref T') H') : spLCopied ([.ref T] ++ []) H Q E := ⟨B, T, l, rfl, h, k⟩
theorem ok_lcopied {f : Addr} {fd : FuncData} {k : Nat} (F : Fun K "_law_copied" "_law_copied" s__law_copied f fd) (m1 : mg "dict" = none) (m2 : mg "list" = none) : FnOk P w K mg base CX0 (k + 2) f fd ["_law_tree_here"] spLCopied := by
  refine F.ok sc__law_copied (fun vs H Q E h => ?_) (fun cdv A outer s H vs Q E hr h => ?_)
  · obtain ⟨B, T, l, rfl, _⟩ := h
    rfl
  · obtain ⟨B, T, l, rfl, hT, q⟩ := h
    have hu := hu_of hr
    have nd := sc__law_copied.nd
    refine ⟨_, (pss_one (ps_ret (pe_disp (pps_cons pe_str (pe_callTy call_dictD (by rfl) (by assumption) (by decide +kernel) (pa_cons (pe_dget hu (pv 0) pe_str (fun _ _ => rfl)) pa_nil)) (pps_cons pe_str (pe_callTy (call_listK K) (by rfl) (by assumption) (by decide +kernel) (pa_cons (pe_dget hu (pv 0) pe_str (fun _ _ => rfl)) pa_nil)) pps_nil)) rfl rfl (by intro h; cases h) (by decide)))), ?_⟩
    obtain ⟨A, F, ps, vs, g⟩ := hT
    refine r_disp fun T1 hT1 => r_pcons ?_
    walk_at "rd"
    have e1 := same_new (o := HO.dK []) hT1
    refine ⟨T, _, rfl, .inl ⟨_, Sum.inr "at", .inl (e1 _ _ g.tr), rfl, rfl⟩, A, ps, rfl, .inl (e1 _ _ g.ad), fun A1 hA1 => ?_⟩
    have e2 := same_new (o := HO.dK ps) hA1
    refine r_pcons ?_
    walk_at "rd"
    refine ⟨T, _, rfl, .inl ⟨_, Sum.inr "files", .inl (e2 _ _ (e1 _ _ g.tr)), rfl, rfl⟩, F, vs, rfl, .inl (SqL.of (e2 _ _ (e1 _ _ g.fd))), fun F1 hF1 => ?_⟩
    have e3 := same_new (o := HO.lst vs) hF1
    have nAT : A1 ≠ T1 := (ne_of_none upd_same hA1).symm
    have nFT : F1 ≠ T1 := (ne_of_none (e2 _ _ upd_same) hF1).symm
    refine r_pnil ⟨e3 _ _ (e2 _ _ upd_same), [(Sum.inr "at", .ref A1), (Sum.inr "files", .ref F1)], rfl, (show 2 ≤ 15 by decide), ?_⟩
    have eS : Same H (upd (upd (upd (upd H T1 (.dK [])) A1 (.dK ps)) F1 (.lst vs)) T1 (.dK (mergeK [] [(Sum.inr "at", .ref A1), (Sum.inr "files", .ref F1)]))) := fun b o h => by
      rw [upd_ne (ne_of_none h hT1)]
      exact e3 _ _ (e2 _ _ (e1 _ _ h))
    exact q T1 A1 F1 ps vs _ hT1 (e1.free hA1) ((e1.trans e2).free hF1) eS ⟨upd_same, by rw [upd_ne nAT]; exact e3 _ _ upd_same, g.at'.mono fun _ _ x => x.same eS, by rw [upd_ne nFT]; exact upd_same, Paired.mapP g.fs fun _ _ x => (x.move ((e1.trans e2).free hF1)).same eS, nAT.symm⟩
/-- what stands at the paths, the dict of them locked or not -/
def LTK (H : Hp) (T : Addr) (l : LTr) : Prop := ∃ (A F : Addr) (ps : List (Key × V)), H T = some (.dK [(Sum.inr "at", .ref A), (Sum.inr "files", .ref F)]) ∧ Rd H A (.dK ps) ∧ TabR (LT.At H) ps l.at'
theorem LTR.k {H : Hp} {B T : Addr} {l : LTr} (h : LTR H B T l) : LTK H T l := by
  obtain ⟨A, F, ps, vs, g⟩ := h
  exact ⟨A, F, ps, g.tr, .inl g.ad, g.at'⟩
def spLKind : Sp := fun vs H Q _ => ∃ (T : Addr) (z : Str) (l : LTr), vs = [.ref T, .str z] ∧ LTK H T l ∧ ∀ H', Same H H' → Q (.str (kindL l z)) H'
theorem sp_lkind {B T : Addr} {z : Str} {l : LTr} {H : Hp} {Q : VK} {E : XK} (h : LTR H B T l) (k : ∀ H', Same H H' → Q (.str (kindL l z)) H') : spLKind ([.ref T, .str z] ++ []) H Q E := ⟨T, z, l, rfl, h.k, k⟩
theorem sp_lkindK {T : Addr} {z : Str} {l : LTr} {H : Hp} {Q : VK} {E : XK} (h : LTK H T l) (k : ∀ H', Same H H' → Q (.str (kindL l z)) H') : spLKind ([.ref T, .str z] ++ []) H Q E := ⟨T, z, l, rfl, h, k⟩
theorem ok_lkind {f : Addr} {fd : FuncData} {k : Nat} (F : Fun K "_law_kind" "_law_kind" s__law_kind f fd) : FnOk P w K mg base CX0 (k + 2) f fd ["_law_tree_here", "_law_name"] spLKind := by
  refine F.ok sc__law_kind (fun vs H Q E h => ?_) (fun cdv A outer s H vs Q E hr h => ?_)
  · obtain ⟨T, z, l, rfl, _⟩ := h
    rfl
  · obtain ⟨T, z, l, rfl, hT, q⟩ := h
    have hu := hu_of hr
    have nd := sc__law_kind.nd
    refine ⟨_, (pss_one (ps_ret (pe_ix (ix_tupK K) (pe_dget2 hu (pe_dget hu (pv 0) pe_str (fun _ _ => rfl)) (pv 1) (pe_tup (pa_cons pe_str pa_nil)) ⟨rfl, rfl, rfl, rfl⟩) pe_int (fun _ _ => rfl)))), ?_⟩
    obtain ⟨A, F, ps, gtr, gA, gat⟩ := hT
    unfold tDGet2
    walk_at "rd"
    refine ⟨T, _, rfl, .inl ⟨_, Sum.inr "at", .inl gtr, rfl, rfl⟩, A, rfl, .inl ⟨ps, gA⟩, ?_⟩
    walk_at "rd"
    rename_i p hp
    have e1 := same_new (o := HO.tup [V.str "absent"]) hp
    refine ⟨_, .inl ⟨ps, Sum.inr z, (gA.imp (e1 _ _) fun ⟨o, h⟩ => ⟨o, e1 _ _ h⟩), rfl, rfl⟩, ?_⟩
    unfold kindL at q
    rcases gat.get (z := z) with ⟨h1, h2⟩ | ⟨v, x, h1, h2, t, rfl, hx⟩
    · rw [h1]
      rw [h2] at q
      walk_at "rd"
      refine r_ixT (i := 0) (v := .str "absent") (SqT.of upd_same) (atI_nat (j := 0) rfl) ?_
      exact q _ e1
    · rw [h1]
      rw [h2] at q
      obtain ⟨r, hr'⟩ := x.vals0
      rw [hr'] at hx
      walk_at "rd"
      refine r_ixT (i := 0) (v := .str x.kind) (SqT.of (e1 _ _ hx)) (atI_nat (j := 0) rfl) ?_
      exact q _ e1
end
abbrev s__law_word : Stmt := topS 80
abbrev N__law_word : List Str := ["_law_tree_here", "_law_spec_here", "_law_here", "_law_one"]
theorem sc__law_word : FnScope N__law_word ["_law_tree_here", "_law_spec_here"] (defScope s__law_word) := ⟨rfl, rfl, rfl, by decide +kernel, rfl, by decide +kernel, by decide +kernel⟩
theorem Mem.tuV {H : Hp} {p : Addr} {m : Mem} (h : m.Tu H p) : ∃ r, H p = some (.tup (.str m.kd :: .str m.nm :: .int m.bits :: .int m.tm :: r)) := by
  cases m with
  | file n b t ns => obtain ⟨d, h1, _⟩ := h; exact ⟨_, h1⟩
  | sparse n b t z sp => obtain ⟨q, d, h1, _⟩ := h; exact ⟨_, h1⟩
  | dir n b t => exact ⟨_, h⟩
  | sym n b t g => exact ⟨_, h⟩
  | lnk n b t g => exact ⟨_, h⟩
theorem Mem.kd_dir {m : Mem} (h : m.isDir = true) : m.kd = "directory" := by cases m <;> first | rfl | cases h
theorem Mem.kd_ndir {m : Mem} (h : m.isDir = false) : ¬ m.kd = "directory" := by
  cases m
  case dir => cases h
  case file => exact (by decide +kernel : ¬ ("file" : Str) = "directory")
  case sparse => exact (by decide +kernel : ¬ ("sparse" : Str) = "directory")
  case sym => exact (by decide +kernel : ¬ ("symlink" : Str) = "directory")
  case lnk => exact (by decide +kernel : ¬ ("link" : Str) = "directory")
theorem Mem.kd_lnk {m : Mem} (h : m.isLnk = true) : m.kd = "link" := by cases m <;> first | rfl | cases h
theorem Mem.kd_nlnk {m : Mem} (h : m.isLnk = false) : ¬ m.kd = "link" := by
  cases m
  case lnk => cases h
  case file => exact (by decide +kernel : ¬ ("file" : Str) = "link")
  case sparse => exact (by decide +kernel : ¬ ("sparse" : Str) = "link")
  case dir => exact (by decide +kernel : ¬ ("directory" : Str) = "link")
  case sym => exact (by decide +kernel : ¬ ("symlink" : Str) = "link")
theorem Mem.tuL {H : Hp} {p : Addr} {m : Mem} (h : m.Tu H p) (hl : m.isLnk = true) : H p = some (.tup [.str m.kd, .str m.nm, .int m.bits, .int m.tm, .str m.tgt]) := by
  cases m with
  | lnk n b t g => exact h
  | file n b t ns => cases hl
  | sparse n b t z sp => cases hl
  | dir n b t => cases hl
  | sym n b t g => cases hl
/-- may a path lie above another one -/
def upB (l : LTr) (z : Str) : Bool := "absent" == kindL l z || "directory" == kindL l z
/-- the word for which a member is refused, or nothing -/
def wordL (l : LTr) (m : Mem) : Str :=
  if partsB m.nm = false then "name" else if (aboveP m.nm).all (upB l) = false then "parent"
  else if m.isDir = true then (if ("file" == kindL l m.nm || "symlink" == kindL l m.nm) = true then "occupied" else "")
  else if kindL l m.nm = "directory" then "directory"
  else if m.isLnk = true ∧ kindL l m.tgt ≠ "file" then "target" else ""
section
variable {P : Program} {w : World} {K : PySem.W.Frag} {mg : Str → Option Value} {base : Heap}
def spLWord : Sp := fun vs H Q _ => ∃ (B T p : Addr) (l : LTr) (m : Mem), vs = [.ref T, .ref p] ∧ LTR H B T l ∧ m.Tu H p ∧ m.nm.length ≤ 250 ∧ ∀ H', Same H H' → Q (.str (wordL l m)) H'
theorem sp_lword {B T p : Addr} {l : LTr} {m : Mem} {H : Hp} {Q : VK} {E : XK} (h : LTR H B T l) (hm : m.Tu H p) (hn : m.nm.length ≤ 250) (k : ∀ H', Same H H' → Q (.str (wordL l m)) H') : spLWord ([.ref T, .ref p] ++ []) H Q E := ⟨B, T, p, l, m, rfl, h, hm, hn, k⟩
theorem ok_lword {f : Addr} {fd : FuncData} {k : Nat} (F : Fun K "_law_word" "_law_word" s__law_word f fd) (m1 : mg "all" = none) (c_labove : CalT P w K mg base 2 "_law_above" spAbove) (c_lispath : CalT P w K mg base 2 "_law_is_path" spLIsPath) (c_lkind : CalT P w K mg base 2 "_law_kind" spLKind) : FnOk P w K mg base CX0 (k + 3) f fd ["_law_tree_here", "_law_spec_here"] spLWord := by
  refine F.ok sc__law_word (fun vs H Q E h => ?_) (fun cdv A outer s H vs Q E hr h => ?_)
  · obtain ⟨B, T, p, l, m, rfl, _⟩ := h
    rfl
  · obtain ⟨B, T, p, l, m, rfl, hT, hm, hn, q⟩ := h
    have hu := hu_of hr
    have nd := sc__law_word.nd
    obtain ⟨r, gp⟩ := m.tuV hm
    refine ⟨_, (pss_cons (ps_if (pt_not (pt_val (pe_cc c_lispath hr (by omega) (by rfl) (pa_cons (pe_ix (ix_tupK K) (pv 1) pe_int (fun _ _ => rfl)) pa_nil))))
        (pss_one (ps_ret pe_str))
        pss_nil)
      (pss_cons (ps_if (pt_not (pt_val (pe_callB (call_allK K) (by rfl) (by assumption) (by decide +kernel) (pa_cons (pe_lc (own := [("_law_one", 3)]) (g := (gName 3)) (tt := tYes) rfl nd (pi_list (pe_cc c_labove hr (by omega) (by rfl) (pa_cons (pe_ix (ix_tupK K) (pv 1) pe_int (fun _ _ => rfl)) pa_nil))) (blkOk_by (N := N__law_word) (sc := defScope s__law_word) (by decide +kernel)) (fun _ _ _ _ _ => (pg_name (i := 3) nd rfl (Or.inl rfl))) (fun _ _ _ _ _ => pts_nil) (fun _ _ _ _ _ => (pe_cmpR (op_inK K) (pe_cc c_lkind hr (by omega) (by rfl) (pa_cons (pv 0) (pa_cons (pv 3) pa_nil))) (pe_tup (pa_cons pe_str (pa_cons pe_str pa_nil))) (by rfl)))) pa_nil))))
        (pss_one (ps_ret pe_str))
        pss_nil)
      (pss_cons (ps_set (i := 2) nd rfl (Or.inl rfl) (pe_cc c_lkind hr (by omega) (by rfl) (pa_cons (pv 0) (pa_cons (pe_ix (ix_tupK K) (pv 1) pe_int (fun _ _ => rfl)) pa_nil))))
      (pss_cons (ps_if (pt_cmpR op_eq (pe_ix (ix_tupK K) (pv 1) pe_int (fun _ _ => rfl)) pe_str (nomark _))
        (pss_one (ps_ret (pe_ifExp (pt_cmpR (op_inK K) (pv 2) (pe_tup (pa_cons pe_str (pa_cons pe_str pa_nil))) (by rfl)) pe_str pe_str)))
        pss_nil)
      (pss_cons (ps_if (pt_cmpR op_eq (pv 2) pe_str (nomark _))
        (pss_one (ps_ret pe_str))
        pss_nil)
      (pss_one (ps_ret (pe_ifExp (PW.pt (pw_and (pt_cmpR op_eq (pe_ix (ix_tupK K) (pv 1) pe_int (fun _ _ => rfl)) pe_str (nomark _)) (pw_and1 (pt_cmpR op_ne (pe_cc c_lkind hr (by omega) (by rfl) (pa_cons (pv 0) (pa_cons (pe_ix (ix_tupK K) (pv 1) pe_int (fun _ _ => rfl)) pa_nil))) pe_str (nomark _))))) pe_str pe_str)))))))), ?_⟩
    walk_at "rd"
    refine r_ixT (i := 1) (v := .str m.nm) (SqT.of gp) (atI_nat (j := 1) rfl) ?_
    walk_at "rd"
    refine sp_lispath (by omega) fun H1 e1 => ?_
    refine ⟨_, rfl, ?_⟩
    unfold wordL at q
    cases hb : partsB m.nm with
    | false =>
      rw [hb, if_pos rfl] at q
      walk_at "rd"
      exact q _ e1
    | true =>
      rw [hb, if_neg (by decide)] at q
      have gp1 := e1 _ _ gp
      walk_at "rd"
      refine r_ixT (i := 1) (v := .str m.nm) (SqT.of gp1) (atI_nat (j := 1) rfl) ?_
      walk_at "rd"
      refine sp_above (by omega) fun L H2 hL e2 gL => ?_
      refine ⟨L, rfl, ⟨_, SqL.of gL⟩, ?_⟩
      intro D hD
      have hal : (aboveP m.nm).length ≤ 1001 := by
        unfold aboveP
        rw [List.length_map, List.length_range]
        have := PyProof.Rows.split_le m.nm "/"
        omega
      refine lc_map (cs := aboveP m.nm) (enc := V.str) (f := fun z => V.bl (upB l z)) walk_list hD (Nat.lt_of_le_of_lt hal (by decide)) (fun H' e => SqL.of (e _ _ gL)) (fun x => rfl) ?_ ?_
      · intro z hz H' e Q' k'
        walk_at "rd"
        refine sp_lkind (((hT.same e1).same e2).same e) fun H4 e4 => ?_
        walk_at "rd"
        rename_i t0 ht0
        rw [show inV (.str (kindL l z)) [.str "absent", .str "directory"] = upB l z by simp [inV, upB, eqV]]
        exact k' _ (e4.trans (same_new ht0))
      · intro H' e hl
        have e3 : Same H H' := (e1.trans e2).trans e
        walk_at "rd"
        refine r_all (bs := (aboveP m.nm).map (upB l)) (by rw [List.map_map]; exact SqL.of hl) ?_
        rw [show ((aboveP m.nm).map (upB l)).all id = (aboveP m.nm).all (upB l) by rw [List.all_map]; rfl]
        refine ⟨_, rfl, ?_⟩
        cases hc : (aboveP m.nm).all (upB l) with
        | false =>
          rw [hc, if_pos rfl] at q
          walk_at "rd"
          exact q _ e3
        | true =>
          rw [hc, if_neg (by decide)] at q
          clear hL gL hD hl e e2 gp1
          have gp3 := e3 _ _ gp
          walk_at "rd"
          refine r_ixT (i := 1) (v := .str m.nm) (SqT.of gp3) (atI_nat (j := 1) rfl) ?_
          walk_at "rd"
          refine sp_lkind (hT.same e3) fun H4 e4 => ?_
          have e5 := e3.trans e4
          have gp4 := e5 _ _ gp
          walk_at "rd"
          refine r_ixT (i := 0) (v := .str m.kd) (SqT.of gp4) (atI_nat (j := 0) rfl) ?_
          walk_at "rd"
          rw [dec_strV]
          cases hd : m.isDir with
          | true =>
            rw [hd, if_pos rfl] at q
            have hk := Mem.kd_dir hd
            rw [hk]
            refine r_iteD (fun _ => ?_) (fun h => absurd rfl h)
            walk_at "rd"
            rename_i t0 ht0
            rw [show inV (.str (kindL l m.nm)) [.str "file", .str "symlink"] = ("file" == kindL l m.nm || "symlink" == kindL l m.nm) by simp [inV, eqV]]
            cases hf : ("file" == kindL l m.nm || "symlink" == kindL l m.nm) with
            | true =>
              rw [hf, if_pos rfl] at q
              walk_at "rd"
              exact q _ (e5.trans (same_new ht0))
            | false =>
              rw [hf, if_neg (by decide)] at q
              walk_at "rd"
              exact q _ (e5.trans (same_new ht0))
          | false =>
            rw [hd, if_neg (by decide)] at q
            have hk := Mem.kd_ndir hd
            rw [decide_eq_false hk]
            walk_at "rd"
            rw [dec_strV]
            refine r_iteD (fun h => ?_) (fun h => ?_)
            · rw [if_pos h] at q
              walk_at "rd"
              exact q _ e5
            · rw [if_neg h] at q
              walk_at "rd"
              refine r_ixT (i := 0) (v := .str m.kd) (SqT.of gp4) (atI_nat (j := 0) rfl) ?_
              walk_at "rd"
              rw [dec_strV]
              cases hl : m.isLnk with
              | true =>
                rw [Mem.kd_lnk hl]
                refine r_iteD (fun _ => ?_) (fun h => absurd rfl h)
                walk_at "rd"
                refine r_ixT (i := 4) (v := .str m.tgt) (SqT.of (e5 _ _ (m.tuL hm hl))) (atI_nat (j := 4) rfl) ?_
                walk_at "rd"
                refine sp_lkind (hT.same e5) fun H6 e6 => ?_
                walk_at "rd"
                rw [dec_strV]
                cases hf : decide (kindL l m.tgt = "file") with
                | true =>
                  rw [hl, if_neg (by rintro ⟨_, h⟩; exact h (of_decide_eq_true hf))] at q
                  walk_at "rd"
                  exact q _ (e5.trans e6)
                | false =>
                  rw [hl, if_pos ⟨rfl, of_decide_eq_false hf⟩] at q
                  walk_at "rd"
                  exact q _ (e5.trans e6)
              | false =>
                have hk := Mem.kd_nlnk hl
                rw [decide_eq_false hk]
                rw [hl, if_neg (by simp)] at q
                walk_at "rd"
                exact q _ e5
end
abbrev s__law_content : Stmt := topS 81
abbrev N__law_content : List Str := ["_law_spec_here", "_law_found", "_law_offset", "_law_numbers_here"]
theorem sc__law_content : FnScope N__law_content ["_law_spec_here"] (defScope s__law_content) := ⟨rfl, rfl, rfl, by decide +kernel, rfl, by decide +kernel, by decide +kernel⟩
/-! ### the law's own content -/
def splI (acc : List Int) (s : Int × List Int) : List Int := acc.take s.1.toNat ++ s.2 ++ acc.drop (s.1 + s.2.length).toNat
def contL : Mem → List Int
  | .file _ _ _ ns => ns
  | .sparse _ _ _ z sp => sp.foldl splI (List.replicate z.toNat 0)
  | _ => []
def Mem.hasC : Mem → Bool
  | .file .. => true
  | .sparse .. => true
  | _ => false
theorem splI_len {acc : List Int} {s : Int × List Int} (h0 : 0 ≤ s.1) (h : s.1 + s.2.length ≤ acc.length) : (splI acc s).length = acc.length := by
  unfold splI
  rw [List.length_append, List.length_append, List.length_take, List.length_drop]
  omega
section
variable {P : Program} {w : World} {K : PySem.W.Frag} {mg : Str → Option Value} {base : Heap}
def spLCont : Sp := fun vs H Q _ => ∃ (p : Addr) (m : Mem), vs = [.ref p] ∧ m.Tu H p ∧ m.Ok ∧ m.Two ∧ m.hasC = true ∧ ∀ d H', Same H H' → H' d = some (.lst ((contL m).map V.int)) → (H d = none ∨ ∃ a b c e, H p = some (.tup [a, b, c, e, .ref d])) → Q (.ref d) H'
theorem sp_lcont {p : Addr} {m : Mem} {H : Hp} {Q : VK} {E : XK} (h : m.Tu H p) (h1 : m.Ok) (h2 : m.Two) (h3 : m.hasC = true) (k : ∀ d H', Same H H' → H' d = some (.lst ((contL m).map V.int)) → (H d = none ∨ ∃ a b c e, H p = some (.tup [a, b, c, e, .ref d])) → Q (.ref d) H') : spLCont ([.ref p] ++ []) H Q E := ⟨p, m, rfl, h, h1, h2, h3, k⟩
theorem ok_lcontent {f : Addr} {fd : FuncData} {k : Nat} (F : Fun K "_law_content" "_law_content" s__law_content f fd) (m1 : mg "len" = none) : FnOk P w K mg base CX0 (k + 2) f fd ["_law_spec_here"] spLCont := by
  refine F.ok sc__law_content (fun vs H Q E h => ?_) (fun cdv A outer s H vs Q E hr h => ?_)
  · obtain ⟨p, m, rfl, _⟩ := h
    rfl
  · obtain ⟨p, m, rfl, hm, hok, htw, hc, q⟩ := h
    have hu := hu_of hr
    have nd := sc__law_content.nd
    obtain ⟨r, gp⟩ := m.tuV hm
    refine ⟨_, (pss_cons (ps_if (pt_cmpR op_eq (pe_ix (ix_tupK K) (pv 0) pe_int (fun _ _ => rfl)) pe_str (nomark _))
        (pss_one (ps_ret (pe_ix (ix_tupK K) (pv 0) pe_int (fun _ _ => rfl))))
        pss_nil)
      (pss_cons (ps_set (i := 1) nd rfl (Or.inl rfl) (pe_op op_rep (pe_lst (pa_cons pe_int pa_nil)) (pe_ix (ix_tupK K) (pe_ix (ix_tupK K) (pv 0) pe_int (fun _ _ => rfl)) pe_int (fun _ _ => rfl))))
      (pss_cons (ps_for PassesOwn.never rfl (pi_list (pe_ix (ix_tupK K) (pe_ix (ix_tupK K) (pv 0) pe_int (fun _ _ => rfl)) pe_int (fun _ _ => rfl))) (pg_tupK K (pg_tup rfl (pgs_cons (pg_name (i := 2) nd rfl (Or.inl rfl)) (pgs_cons (pg_name (i := 3) nd rfl (Or.inl rfl)) pgs_nil))))
        (pss_one (ps_lslice (pv 1) (po_some (pv 2)) (po_some (pe_op op_add (pv 2) (pe_callB (call_lenK K) (by rfl) (by assumption) (by decide +kernel) (pa_cons (pv 3) pa_nil)))) (pv 3) rfl)))
      (pss_one (ps_ret (pv 1)))))), ?_⟩
    walk_at "rd"
    refine r_ixT (i := 0) (v := .str m.kd) (SqT.of gp) (atI_nat (j := 0) rfl) ?_
    walk_at "rd"
    rw [dec_strV]
    cases m with
    | dir n b t => cases hc
    | sym n b t g => cases hc
    | lnk n b t g => cases hc
    | file n b t ns =>
      obtain ⟨d, g1, g2⟩ := hm
      refine r_iteD (fun _ => ?_) (fun h => absurd rfl h)
      walk_at "rd"
      exact q d H (.refl _) g2 (.inr ⟨_, _, _, _, g1⟩)
    | sparse n b t z sp =>
      obtain ⟨x, d, g1, g2, as, g3, g4⟩ := hm
      refine r_iteD (fun h => absurd h (by decide +kernel : ¬ ("sparse" : Str) = "file")) (fun _ => ?_)
      walk_at "rd"
      rename_i p0 hp0
      obtain ⟨⟨_, _⟩, z0, z1, _, hso, hby⟩ := id hok
      obtain ⟨l2, l3, _⟩ := id htw
      refine r_rep upd_same (by omega) (by omega) (Nat.le_trans (by simp; omega : _ ≤ 5000) (by decide)) fun L hL => ?_
      rw [show (List.replicate (Int.toNat z) [V.int 0]).flatten = (List.replicate z.toNat (0 : Int)).map V.int by simp]
      have e0 := (same_new (o := HO.lst [V.int 0]) hp0).trans (same_new (o := HO.lst ((List.replicate z.toNat (0 : Int)).map V.int)) hL)
      have gL : upd (upd H p0 (HO.lst [V.int 0])) L (HO.lst ((List.replicate z.toNat (0 : Int)).map V.int)) L = some (.lst ((List.replicate z.toNat (0 : Int)).map V.int)) := upd_same
      have hL0 : H L = none := (same_new hp0).free hL
      generalize upd (upd H p0 (HO.lst [V.int 0])) L (HO.lst ((List.replicate z.toNat (0 : Int)).map V.int)) = H1 at e0 gL ⊢
      have g11 := e0 _ _ g1
      have g21 := e0 _ _ g2
      walk_at "rd"
      refine ⟨d, rfl, ⟨_, SqL.of (e0 _ _ g3)⟩, ?_⟩
      refine for_it (walk_list (xs := as.map V.ref)) (fun i σ H' => ∃ (v2 v3 : Option V), σ = [some (.ref p), some (.ref L), v2, v3] ∧ Same H H' ∧ H' L = some (.lst (((sp.take i).foldl splI (List.replicate z.toNat 0)).map V.int)) ∧ ((sp.take i).foldl splI (List.replicate z.toNat 0)).length = z.toNat) ?_ (fun i σ H' _ ⟨_, _, _, e, _⟩ => SqL.of (e _ _ g3)) ?_ ?_
      · exact ⟨_, _, rfl, e0, gL, List.length_replicate ..⟩
      · rintro i x σ Hc H' hi ⟨v2, v3, rfl, es, gl, hlen⟩ ⟨rfl, hx⟩
        rw [List.getElem?_map] at hx
        obtain ⟨qa, hqa, rfl⟩ := Option.map_eq_some_iff.mp hx
        obtain ⟨s, hsi, e, hqt, hqe⟩ := paired_at g4 hqa
        have hq1 := es _ _ hqt
        have hq2 := es _ _ hqe
        obtain ⟨b0, b1, b2⟩ := spansOk_all (Int.le_refl 0) hso (s.1, (s.2.length : Int)) (List.mem_map.mpr ⟨s, List.mem_of_getElem? hsi, rfl⟩)
        have neL : L ≠ e := (ne_of_none hqe hL0).symm
        dsimp only at b0 b1 b2
        unfold sLSl tPart
        walk_at "rd"
        rw [List.length_map]
        refine ⟨L, e, _, _, s.1, s.1 + (s.2.length : Int), rfl, rfl, rfl, rfl, gl, hq2, neL, b0, by omega, by rw [List.length_map, hlen]; omega, Nat.le_trans (by rw [List.length_map, List.length_map, hlen]; omega : _ ≤ 10000) (by decide), ?_⟩
        have hn : (sp.take (i + 1)).foldl splI (List.replicate z.toNat 0) = splI ((sp.take i).foldl splI (List.replicate z.toNat 0)) s := by rw [take_snoc hsi, List.foldl_append]; rfl
        refine ⟨_, _, rfl, fun b o eo => ?_, ?_, ?_⟩
        · rw [upd_ne (ne_of_none eo hL0)]
          exact es _ _ eo
        · rw [upd_same, hn]
          unfold splI
          rw [List.map_append, List.map_append, List.map_take, List.map_drop]
        · rw [hn, splI_len b0 (by rw [hlen]; omega), hlen]
      · rintro σ Hc ⟨v2, v3, rfl, es, gl, hlen⟩
        walk_at "rd"
        rw [List.length_map, g4.length, List.take_length] at gl
        exact q L _ es gl (.inl hL0)
end
abbrev s__law_stepped : Stmt := topS 82
abbrev N__law_stepped : List Str := ["_law_tree_here", "_law_spec_here", "_law_at", "_law_one", "_law_files"]
theorem sc__law_stepped : FnScope N__law_stepped ["_law_tree_here", "_law_spec_here"] (defScope s__law_stepped) := ⟨rfl, rfl, rfl, by decide +kernel, rfl, by decide +kernel, by decide +kernel⟩
/-! ### a step of the law's tree -/
def putDf (l : List (Str × LT)) : List Str → List (Str × LT)
  | [] => l
  | p :: r => putDf (if (look l p).isSome = true then l else putA l p (.dir 493 0)) r
theorem putDf_snoc : ∀ {a : List Str} {l : List (Str × LT)} {p : Str}, putDf l (a ++ [p]) = if (look (putDf l a) p).isSome = true then putDf l a else putA (putDf l a) p (.dir 493 0)
  | [], _, _ => rfl
  | _ :: a, _, _ => putDf_snoc (a := a)
theorem putDf_len : ∀ {a : List Str} {l : List (Str × LT)}, (putDf l a).length ≤ l.length + a.length
  | [], _ => Nat.le_refl _
  | p :: a, l => by
    have h := putDf_len (a := a) (l := if (look l p).isSome = true then l else putA l p (.dir 493 0))
    have h2 : (if (look l p).isSome = true then l else putA l p (.dir 493 0)).length ≤ l.length + 1 := by
      split
      · omega
      · exact put_len
    show (putDf _ a).length ≤ _
    rw [List.length_cons]
    omega
theorem putDf_look {x : LT} {p : Str} : ∀ {a : List Str} {l : List (Str × LT)}, look l p = some x → look (putDf l a) p = some x
  | [], _, h => h
  | q :: a, l, h => by
    refine putDf_look (a := a) ?_
    split
    · exact h
    · rename_i hn
      rw [look_put, if_neg (fun e => by rw [← e, h] at hn; exact hn rfl)]
      exact h
/-- the tree into which a member is unpacked -/
def stepL (l : LTr) (m : Mem) : LTr :=
  match m with
  | .lnk n _ _ g => ⟨putA (putDf l.at' (aboveP n)) n ((look l.at' g).getD (.dir 0 0)), l.files⟩
  | .dir n b t => ⟨putA (putDf l.at' (aboveP n)) n (.dir b t), l.files⟩
  | .sym n b t g => ⟨putA (putDf l.at' (aboveP n)) n (.sym g b t), l.files⟩
  | .file n b t ns => ⟨putA (putDf l.at' (aboveP n)) n (.fil l.files.length), l.files ++ [⟨ns, b, t⟩]⟩
  | .sparse n b t z sp => ⟨putA (putDf l.at' (aboveP n)) n (.fil l.files.length), l.files ++ [⟨contL (.sparse n b t z sp), b, t⟩]⟩
theorem LT.At.dk {H : Hp} {A : Addr} {o : HO} {v : V} {x : LT} {ps : List (Key × V)} (hA : H A = some (.dK ps)) (h : LT.At H v x) : LT.At (upd H A o) v x := by
  obtain ⟨t, h1, h2⟩ := h
  exact ⟨t, h1, by rw [upd_ne (fun e => by rw [e, hA] at h2; cases h2)]; exact h2⟩
theorem LT.At.ls {H : Hp} {A : Addr} {o : HO} {v : V} {x : LT} {ps : List V} (hA : H A = some (.lst ps)) (h : LT.At H v x) : LT.At (upd H A o) v x := by
  obtain ⟨t, h1, h2⟩ := h
  exact ⟨t, h1, by rw [upd_ne (fun e => by rw [e, hA] at h2; cases h2)]; exact h2⟩
theorem LTI.putA {H : Hp} {B T A F : Addr} {ps : List (Key × V)} {vs : List V} {l : LTr} {z : Str} {v : V} {x : LT} (h : LTI H B T A F ps vs l) (hv : LT.At H v x) : LTI (upd H A (.dK (putK ps (Sum.inr z) v))) B T A F (putK ps (Sum.inr z) v) vs ⟨Th.putA l.at' z x, l.files⟩ := by
  have nF : F ≠ A := fun e => by have := h.fd; rw [e, h.ad] at this; cases this
  refine ⟨by rw [upd_ne h.ta]; exact h.tr, upd_same, (h.at'.mono fun _ _ y => y.dk h.ad).put (hv.dk h.ad), by rw [upd_ne nF]; exact h.fd, Paired.mapP h.fs fun _ _ ⟨q, d, k1, k2, k3, k4⟩ => ⟨q, d, k1, ?_, ?_, k4⟩, h.ta⟩
  · rw [upd_ne (fun e => by rw [e, h.ad] at k2; cases k2)]; exact k2
  · rw [upd_ne (fun e => by rw [e, h.ad] at k3; cases k3)]; exact k3
theorem LTI.addF {H : Hp} {B T A F : Addr} {ps : List (Key × V)} {vs : List V} {l : LTr} {v : V} {x : LFl} (h : LTI H B T A F ps vs l) (hv : LFl.At H B F v x) : LTI (upd H F (.lst (vs ++ [v]))) B T A F ps (vs ++ [v]) ⟨l.at', l.files ++ [x]⟩ := by
  have nF : F ≠ A := fun e => by have := h.fd; rw [e, h.ad] at this; cases this
  have nT : F ≠ T := fun e => by have := h.fd; rw [e, h.tr] at this; cases this
  have mv : ∀ {v' x'}, LFl.At H B F v' x' → LFl.At (upd H F (.lst (vs ++ [v]))) B F v' x' := fun {v' x'} ⟨q, d, k1, k2, k3, k4, k5⟩ => ⟨q, d, k1, by rw [upd_ne (fun e => by rw [e, h.fd] at k2; cases k2)]; exact k2, by rw [upd_ne k4]; exact k3, k4, k5⟩
  exact ⟨by rw [upd_ne nT.symm]; exact h.tr, by rw [upd_ne nF.symm]; exact h.ad, h.at'.mono fun _ _ y => y.ls h.fd, upd_same, paired_snoc (Paired.mapP h.fs fun _ _ y => mv y) (mv hv), h.ta⟩
theorem kindL_file {l : LTr} {z : Str} (h : kindL l z = "file") : ∃ i, look l.at' z = some (.fil i) := by
  unfold kindL at h
  cases e : look l.at' z with
  | none => rw [e] at h; exact absurd h (by decide +kernel : ¬ ("absent" : Str) = "file")
  | some x =>
    rw [e] at h
    cases x with
    | fil i => exact ⟨i, rfl⟩
    | dir m t => exact absurd h (by decide +kernel : ¬ ("directory" : Str) = "file")
    | sym g m t => exact absurd h (by decide +kernel : ¬ ("symlink" : Str) = "file")
theorem Mem.kdC {m : Mem} (h : m.hasC = true) : ¬ m.kd = "link" ∧ ¬ m.kd = "directory" ∧ ¬ m.kd = "symlink" := by
  cases m with
  | file n b t ns => exact (by decide +kernel : ¬ ("file" : Str) = "link" ∧ ¬ ("file" : Str) = "directory" ∧ ¬ ("file" : Str) = "symlink")
  | sparse n b t z sp => exact (by decide +kernel : ¬ ("sparse" : Str) = "link" ∧ ¬ ("sparse" : Str) = "directory" ∧ ¬ ("sparse" : Str) = "symlink")
  | dir n b t => cases h
  | sym n b t g => cases h
  | lnk n b t g => cases h
theorem Mem.tu4 {H : Hp} {p : Addr} {m : Mem} (h : m.Tu H p) (hc : m.hasC = true) : ∃ x o, H p = some (.tup [.str m.kd, .str m.nm, .int m.bits, .int m.tm, .ref x]) ∧ H x = some o := by
  cases m with
  | file n b t ns => obtain ⟨d, h1, h2⟩ := h; exact ⟨d, _, h1, h2⟩
  | sparse n b t z sp => obtain ⟨q, d, h1, h2, _⟩ := h; exact ⟨q, _, h1, h2⟩
  | dir n b t => cases hc
  | sym n b t g => cases hc
  | lnk n b t g => cases hc
theorem stepL_C {l : LTr} {m : Mem} (h : m.hasC = true) : stepL l m = ⟨putA (putDf l.at' (aboveP m.nm)) m.nm (.fil l.files.length), l.files ++ [⟨contL m, m.bits, m.tm⟩]⟩ := by
  cases m with
  | file n b t ns => rfl
  | sparse n b t z sp => rfl
  | dir n b t => cases h
  | sym n b t g => cases h
  | lnk n b t g => cases h
section
variable {P : Program} {w : World} {K : PySem.W.Frag} {mg : Str → Option Value} {base : Heap}
def spLStep : Sp := fun vs H Q _ => ∃ (B T p : Addr) (l : LTr) (m : Mem), vs = [.ref T, .ref p] ∧ (H B).isSome = true ∧ (∀ a b c e x, H p = some (.tup [a, b, c, e, .ref x]) → x ≠ B) ∧ LTR H B T l ∧ m.Tu H p ∧ m.Ok ∧ m.Two ∧ m.nm.length ≤ 250 ∧ l.at'.length ≤ 1000 ∧ l.files.length ≤ 1000 ∧ (m.isLnk = true → kindL l m.tgt = "file") ∧ ∀ T' H', H T' = none → Same H H' → LTR H' B T' (stepL l m) → Q (.ref T') H'
theorem sp_lstep {B T p : Addr} {l : LTr} {m : Mem} {H : Hp} {Q : VK} {E : XK} (hB : (H B).isSome = true) (hB2 : ∀ a b c e x, H p = some (.tup [a, b, c, e, .ref x]) → x ≠ B) (hT : LTR H B T l) (hm : m.Tu H p) (h1 : m.Ok) (h2 : m.Two) (hn : m.nm.length ≤ 250) (hl : l.at'.length ≤ 1000) (hf : l.files.length ≤ 1000) (hk : m.isLnk = true → kindL l m.tgt = "file") (k : ∀ T' H', H T' = none → Same H H' → LTR H' B T' (stepL l m) → Q (.ref T') H') : spLStep ([.ref T, .ref p] ++ []) H Q E := ⟨B, T, p, l, m, rfl, hB, hB2, hT, hm, h1, h2, hn, hl, hf, hk, k⟩
theorem ok_lstep {f : Addr} {fd : FuncData} {k : Nat} (F : Fun K "_law_stepped" "_law_stepped" s__law_stepped f fd) (m1 : mg "len" = none) (c_labove : CalT P w K mg base 2 "_law_above" spAbove) (c_lcopied : CalT P w K mg base 2 "_law_copied" spLCopied) (c_lcontent : CalT P w K mg base 2 "_law_content" spLCont) : FnOk P w K mg base CX0 (k + 3) f fd ["_law_tree_here", "_law_spec_here"] spLStep := by
  refine F.ok sc__law_stepped (fun vs H Q E h => ?_) (fun cdv A outer s H vs Q E hr h => ?_)
  · obtain ⟨B, T, p, l, m, rfl, _⟩ := h
    rfl
  · obtain ⟨B, T, p, l, m, rfl, hB, hB2, hT, hm, hok, htw, hn, hla, hlf, hlk, q⟩ := h
    have hu := hu_of hr
    have nd := sc__law_stepped.nd
    obtain ⟨r, gp⟩ := m.tuV hm
    refine ⟨_, (pss_cons (ps_set (i := 0) nd rfl (Or.inl rfl) (pe_cc c_lcopied hr (by omega) (by rfl) (pa_cons (pv 0) pa_nil)))
      (pss_cons (ps_set (i := 2) nd rfl (Or.inl rfl) (pe_dget hu (pv 0) pe_str (fun _ _ => rfl)))
      (pss_cons (ps_for PassesOwn.never rfl (pi_list (pe_cc c_labove hr (by omega) (by rfl) (pa_cons (pe_ix (ix_tupK K) (pv 1) pe_int (fun _ _ => rfl)) pa_nil))) (pg_name (i := 3) nd rfl (Or.inl rfl))
        (pss_one (ps_expr (pe_dsetd (pv 2) (pv 3) (pe_tup (pa_cons pe_str (pa_cons pe_int (pa_cons pe_int pa_nil)))) ⟨rfl, rfl, rfl, rfl⟩))))
      (pss_cons (ps_if (pt_cmpR op_eq (pe_ix (ix_tupK K) (pv 1) pe_int (fun _ _ => rfl)) pe_str (nomark _))
        (pss_one (ps_dput hu (pv 2) (pe_ix (ix_tupK K) (pv 1) pe_int (fun _ _ => rfl)) (pe_dget hu (pv 2) (pe_ix (ix_tupK K) (pv 1) pe_int (fun _ _ => rfl)) (fun _ _ => rfl)) rfl))
        (pss_one (ps_if (pt_cmpR op_eq (pe_ix (ix_tupK K) (pv 1) pe_int (fun _ _ => rfl)) pe_str (nomark _))
        (pss_one (ps_dput hu (pv 2) (pe_ix (ix_tupK K) (pv 1) pe_int (fun _ _ => rfl)) (pe_tup (pa_cons pe_str (pa_cons (pe_ix (ix_tupK K) (pv 1) pe_int (fun _ _ => rfl)) (pa_cons (pe_ix (ix_tupK K) (pv 1) pe_int (fun _ _ => rfl)) pa_nil)))) rfl))
        (pss_one (ps_if (pt_cmpR op_eq (pe_ix (ix_tupK K) (pv 1) pe_int (fun _ _ => rfl)) pe_str (nomark _))
        (pss_one (ps_dput hu (pv 2) (pe_ix (ix_tupK K) (pv 1) pe_int (fun _ _ => rfl)) (pe_tup (pa_cons pe_str (pa_cons (pe_ix (ix_tupK K) (pv 1) pe_int (fun _ _ => rfl)) (pa_cons (pe_ix (ix_tupK K) (pv 1) pe_int (fun _ _ => rfl)) (pa_cons (pe_ix (ix_tupK K) (pv 1) pe_int (fun _ _ => rfl)) pa_nil))))) rfl))
        (pss_cons (ps_set (i := 4) nd rfl (Or.inl rfl) (pe_dget hu (pv 0) pe_str (fun _ _ => rfl)))
      (pss_cons (ps_expr (pe_bm PySem.F.plainAttrs_list PySem.F.slot_list_append PySem.F.type_list_append mt_append (pv 4) (pa_cons (pe_tup (pa_cons pe_str (pa_cons (pe_cc c_lcontent hr (by omega) (by rfl) (pa_cons (pv 1) pa_nil)) (pa_cons (pe_ix (ix_tupK K) (pv 1) pe_int (fun _ _ => rfl)) (pa_cons (pe_ix (ix_tupK K) (pv 1) pe_int (fun _ _ => rfl)) pa_nil))))) pa_nil)))
      (pss_one (ps_dput hu (pv 2) (pe_ix (ix_tupK K) (pv 1) pe_int (fun _ _ => rfl)) (pe_tup (pa_cons pe_str (pa_cons (pe_op op_sub (pe_callB (call_lenK K) (by rfl) (by assumption) (by decide +kernel) (pa_cons (pv 4) pa_nil)) pe_int) pa_nil))) rfl)))))))))
      (pss_one (ps_ret (pv 0))))))), ?_⟩
    walk_at "rd"
    refine sp_lcopied hT fun T1 A1 F1 ps vs H1 n1 n2 n3 e1 g => ?_
    walk_at "rd"
    refine ⟨T1, _, rfl, .inl ⟨_, Sum.inr "at", .inl g.tr, rfl, rfl⟩, ?_⟩
    have gp1 := e1 _ _ gp
    walk_at "rd"
    refine r_ixT (i := 1) (v := .str m.nm) (SqT.of gp1) (atI_nat (j := 1) rfl) ?_
    walk_at "rd"
    refine sp_above (by omega) fun L H2 hL e2 gL => ?_
    have g2 := g.same e2
    refine ⟨L, rfl, ⟨_, SqL.of gL⟩, ?_⟩
    have hal : (aboveP m.nm).length ≤ 1001 := by
      unfold aboveP
      rw [List.length_map, List.length_range]
      have := PyProof.Rows.split_le m.nm "/"
      omega
    have nL : L ≠ A1 := (ne_of_none g.ad hL).symm
    refine for_it (walk_list (xs := (aboveP m.nm).map V.str)) (fun i σ H' => ∃ v3 v4 ps', σ = [some (.ref T1), some (.ref p), some (.ref A1), v3, v4] ∧ LTI H' B T1 A1 F1 ps' vs ⟨putDf l.at' ((aboveP m.nm).take i), l.files⟩ ∧ (∀ b o, b ≠ A1 → H2 b = some o → H' b = some o)) ?_ (fun i σ H' _ ⟨_, _, _, _, _, fr⟩ => SqL.of (fr _ _ nL gL)) ?_ ?_
    · exact ⟨_, _, ps, rfl, g2, fun _ _ _ h => h⟩
    · rintro i v σ Hc H' hi ⟨v3, v4, ps', rfl, g', fr⟩ ⟨rfl, hv⟩
      rw [List.getElem?_map] at hv
      obtain ⟨z, hz, rfl⟩ := Option.map_eq_some_iff.mp hv
      have psl : ps'.length ≤ 2001 := by
        have h1 := putDf_len (a := (aboveP m.nm).take i) (l := l.at')
        have h2 : ((aboveP m.nm).take i).length ≤ 1001 := by rw [List.length_take]; omega
        have h3 := g'.at'.len
        dsimp only at h3
        omega
      have hsn := putDf_snoc (a := (aboveP m.nm).take i) (l := l.at') (p := z)
      rw [← take_snoc hz] at hsn
      walk_at "rd"
      refine ⟨A1, rfl, .inl ⟨ps', .inl g'.ad⟩, ?_⟩
      walk_at "rd"
      rename_i t0 ht0
      have gT := g'.same (same_new (o := HO.tup [V.str "directory", V.int 493, V.int 0]) ht0)
      refine ⟨ps', Sum.inr z, upd_old ht0 g'.ad, rfl, Nat.lt_of_le_of_lt psl (by decide), fun v hv => ?_, fun hv => ?_⟩
      · rcases g'.at'.get (z := z) with ⟨k1, _⟩ | ⟨_, y9, _, k2, _⟩
        · rw [k1] at hv; cases hv
        · dsimp only at k2
          rw [k2, if_pos (show (some y9).isSome = true from rfl)] at hsn
          refine ⟨_, _, ps', rfl, ?_, fun b o nb h => upd_old ht0 (fr b o nb h)⟩
          rw [hsn]
          exact gT
      · rcases g'.at'.get (z := z) with ⟨_, k2⟩ | ⟨_, y9, k1, _, _⟩
        · dsimp only at k2
          rw [k2, if_neg (by decide)] at hsn
          refine ⟨_, _, putK ps' (Sum.inr z) (.ref t0), rfl, ?_, fun b o nb h => by rw [upd_ne nb]; exact upd_old ht0 (fr b o nb h)⟩
          rw [hsn]
          exact gT.putA (x := .dir 493 0) ⟨t0, rfl, upd_same⟩
        · rw [k1] at hv; cases hv
    · rintro σ Hc ⟨v3, v4, ps', rfl, g', fr⟩
      rw [List.length_map, List.take_length] at g'
      have nP : p ≠ A1 := fun e => by rw [e, g.ad] at gp1; cases gp1
      have keep : ∀ b xs, H b = some (.tup xs) → Hc b = some (.tup xs) := fun b xs h => fr _ _ (ne_of_none h n2) (e2 _ _ (e1 _ _ h))
      have gpc := keep _ _ gp
      have psl : ps'.length ≤ 2001 := by
        have h1 := putDf_len (a := aboveP m.nm) (l := l.at')
        have h3 := g'.at'.len
        dsimp only at h3
        omega
      have fin : ∀ H9 ps9 vs9, LTI H9 B T1 A1 F1 ps9 vs9 (stepL l m) → (∀ b o, b ≠ A1 → b ≠ F1 → Hc b = some o → H9 b = some o) → Q (.ref T1) H9 := fun H9 ps9 vs9 g9 f9 => q T1 H9 n1 (fun b o h => f9 b o (ne_of_none h n2) (ne_of_none h n3) (fr _ _ (ne_of_none h n2) (e2 _ _ (e1 _ _ h)))) ⟨A1, F1, ps9, vs9, g9⟩
      walk_at "rd"
      refine r_ixT (i := 0) (v := .str m.kd) (SqT.of gpc) (atI_nat (j := 0) rfl) ?_
      walk_at "rd"
      rw [dec_strV]
      cases hcc : m.hasC with
      | true =>
        obtain ⟨kl, kd, ks⟩ := Mem.kdC hcc
        refine r_iteD (fun h => absurd h kl) (fun _ => ?_)
        walk_at "rd"
        refine r_ixT (i := 0) (v := .str m.kd) (SqT.of gpc) (atI_nat (j := 0) rfl) ?_
        walk_at "rd"
        rw [dec_strV]
        refine r_iteD (fun h => absurd h kd) (fun _ => ?_)
        walk_at "rd"
        refine r_ixT (i := 0) (v := .str m.kd) (SqT.of gpc) (atI_nat (j := 0) rfl) ?_
        walk_at "rd"
        rw [dec_strV]
        refine r_iteD (fun h => absurd h ks) (fun _ => ?_)
        walk_at "rd"
        refine ⟨T1, .ref F1, rfl, .inl ⟨_, Sum.inr "files", .inl g'.tr, rfl, rfl⟩, ?_⟩
        have gfd := g'.fd
        walk_at "rd"
        have sH : Same H Hc := fun b o h => fr _ _ (ne_of_none h n2) (e2 _ _ (e1 _ _ h))
        refine sp_lcont (hm.same sH) hok htw hcc fun d H6 e6 gd hd => ?_
        have nd1 : d ≠ F1 := by
          rcases hd with hd | ⟨a, b, c, e, hd⟩
          · exact (ne_of_none gfd hd).symm
          · obtain ⟨x, o, k1, k2⟩ := m.tu4 hm hcc
            have k3 := sH _ _ k1
            rw [hd] at k3
            cases k3
            exact ne_of_none k2 n3
        have nd2 : d ≠ B := by
          rcases hd with hd | ⟨a, b, c, e, hd⟩
          · obtain ⟨o, ho⟩ := Option.isSome_iff_exists.mp hB
            exact (ne_of_none (sH _ _ ho) hd).symm
          · obtain ⟨x, o, k1, k2⟩ := m.tu4 hm hcc
            have k3 := sH _ _ k1
            rw [hd] at k3
            cases k3
            exact hB2 _ _ _ _ _ k1
        have gp6 := e6 _ _ gpc
        have g6 := g'.same e6
        have vl : vs.length = l.files.length := g'.fs.length
        walk_at "rd"
        refine r_ixT (i := 2) (v := .int m.bits) (SqT.of gp6) (atI_nat (j := 2) rfl) ?_
        walk_at "rd"
        refine r_ixT (i := 3) (v := .int m.tm) (SqT.of gp6) (atI_nat (j := 3) rfl) ?_
        walk_at "rd"
        rename_i t0 ht0
        have g7 := g6.same (same_new (o := HO.tup [V.str "file", V.ref d, V.int m.bits, V.int m.tm]) ht0)
        have g8 := g7.addF (v := .ref t0) (x := ⟨contL m, m.bits, m.tm⟩) ⟨t0, d, rfl, upd_same, upd_old ht0 gd, nd1, nd2⟩
        have nPF : p ≠ F1 := fun e => by rw [e, g'.fd] at gpc; cases gpc
        have gp8 : upd (upd H6 t0 (HO.tup [V.str "file", V.ref d, V.int m.bits, V.int m.tm])) F1 (.lst (vs ++ [V.ref t0])) p = some (.tup (.str m.kd :: .str m.nm :: .int m.bits :: .int m.tm :: r)) := by rw [upd_ne nPF]; exact upd_old ht0 gp6
        have f8 : ∀ b o, b ≠ F1 → Hc b = some o → upd (upd H6 t0 (HO.tup [V.str "file", V.ref d, V.int m.bits, V.int m.tm])) F1 (.lst (vs ++ [V.ref t0])) b = some o := fun b o nb h => by rw [upd_ne nb]; exact upd_old ht0 (e6 _ _ h)
        refine r_append g7.fd (Nat.lt_of_le_of_lt (by omega : _ ≤ 1000) (by decide)) ?_
        generalize upd (upd H6 t0 (HO.tup [V.str "file", V.ref d, V.int m.bits, V.int m.tm])) F1 (.lst (vs ++ [V.ref t0])) = H8 at g8 gp8 f8 ⊢
        have gfd8 := g8.fd
        walk_at "rd"
        rename_i t1 ht1
        refine r_ixT (i := 1) (v := .str m.nm) (SqT.of (upd_old ht1 gp8)) (atI_nat (j := 1) rfl) ?_
        have g9 := g8.same (same_new (o := HO.tup [V.str "file", V.int (((vs ++ [V.ref t0]).length : Int) - 1)]) ht1)
        refine ⟨A1, _, rfl, DPut.k (k := Sum.inr m.nm) (upd_old ht1 g8.ad) (Nat.lt_of_le_of_lt psl (by decide)), ?_⟩
        walk_at "rd"
        refine fin _ (putK ps' (Sum.inr m.nm) (.ref t1)) (vs ++ [.ref t0]) ?_ (fun b o nA nF h => by rw [upd_ne nA]; exact upd_old ht1 (f8 _ _ nF h))
        rw [stepL_C hcc]
        refine g9.putA (x := .fil l.files.length) ⟨t1, rfl, ?_⟩
        rw [upd_same]
        unfold LT.vals
        rw [show ((vs ++ [V.ref t0]).length : Int) - 1 = (l.files.length : Int) by rw [List.length_append, vl]; show ((l.files.length + 1 : Nat) : Int) - 1 = _; omega]
      | false =>
      cases m with
      | file n b t ns => cases hcc
      | sparse n b t z sp => cases hcc
      | lnk n b t g0 =>
        refine r_iteD (fun _ => ?_) (fun h => absurd rfl h)
        have hmc := keep _ _ hm
        obtain ⟨i0, hlook⟩ := kindL_file (hlk rfl)
        have hlook : look l.at' g0 = some (.fil i0) := hlook
        have hl2 := putDf_look (a := aboveP n) hlook
        walk_at "rd"
        rcases g'.at'.get (z := g0) with ⟨_, k2⟩ | ⟨v, y9, k1, k2, hv⟩
        · rw [show look (putDf l.at' (aboveP n)) g0 = none from k2] at hl2; cases hl2
        · rw [show look (putDf l.at' (aboveP n)) g0 = some y9 from k2] at hl2
          cases hl2
          refine ⟨A1, v, rfl, .inl ⟨ps', Sum.inr g0, .inl g'.ad, rfl, k1.symm⟩, ?_⟩
          walk_at "rd"
          refine ⟨A1, _, rfl, DPut.k (k := Sum.inr n) g'.ad (Nat.lt_of_le_of_lt psl (by decide)), ?_⟩
          walk_at "rd"
          refine fin _ (putK ps' (Sum.inr n) v) vs ?_ (fun b o nA _ h => by rw [upd_ne nA]; exact h)
          show LTI _ B T1 A1 F1 _ _ ⟨putA (putDf l.at' (aboveP n)) n ((look l.at' g0).getD (.dir 0 0)), l.files⟩
          rw [hlook]
          exact g'.putA hv
      | dir n b t =>
        refine r_iteD (fun h => absurd h (by decide +kernel : ¬ ("directory" : Str) = "link")) (fun _ => ?_)
        have hmc := keep _ _ hm
        walk_at "rd"
        rw [dec_strV]
        refine r_iteD (fun _ => ?_) (fun h => absurd rfl h)
        walk_at "rd"
        rename_i t0 ht0
        refine ⟨A1, _, rfl, DPut.k (k := Sum.inr n) (upd_old ht0 g'.ad) (Nat.lt_of_le_of_lt psl (by decide)), ?_⟩
        walk_at "rd"
        exact fin _ _ _ ((g'.same (same_new ht0)).putA (x := .dir b t) ⟨t0, rfl, upd_same⟩) (fun b o nA _ h => by rw [upd_ne nA]; exact upd_old ht0 h)
      | sym n b t g0 =>
        refine r_iteD (fun h => absurd h (by decide +kernel : ¬ ("symlink" : Str) = "link")) (fun _ => ?_)
        have hmc := keep _ _ hm
        walk_at "rd"
        rw [dec_strV]
        refine r_iteD (fun _ => ?_) (fun h => absurd rfl h)
        walk_at "rd"
        rename_i t0 ht0
        refine ⟨A1, _, rfl, DPut.k (k := Sum.inr n) (upd_old ht0 g'.ad) (Nat.lt_of_le_of_lt psl (by decide)), ?_⟩
        walk_at "rd"
        exact fin _ _ _ ((g'.same (same_new ht0)).putA (x := .sym g0 b t) ⟨t0, rfl, upd_same⟩) (fun b o nA _ h => by rw [upd_ne nA]; exact upd_old ht0 h)
end
abbrev s__law_tree_of : Stmt := topS 84
abbrev N__law_tree_of : List Str := ["_law_source_here", "_law_most", "_law_tree_here", "_law_spec_here"]
theorem sc__law_tree_of : FnScope N__law_tree_of ["_law_source_here", "_law_most"] (defScope s__law_tree_of) := ⟨rfl, rfl, rfl, by decide +kernel, rfl, by decide +kernel, by decide +kernel⟩
/-! ### the tree that members lead to -/
def goL (l : LTr) (m : Mem) : LTr := if wordL l m = "" then stepL l m else l
def treeL (ms : List Mem) : LTr := ms.foldl goL ⟨[], []⟩
theorem treeL_snoc {ms : List Mem} {m : Mem} : treeL (ms ++ [m]) = goL (treeL ms) m := by
  unfold treeL
  rw [List.foldl_append]
  rfl
theorem wordL_lnk {l : LTr} {m : Mem} (h : wordL l m = "") (hl : m.isLnk = true) : kindL l m.tgt = "file" := by
  have hd : m.isDir = false := by cases m <;> first | rfl | cases hl
  unfold wordL at h
  split at h
  · exact absurd h (by decide +kernel)
  · split at h
    · exact absurd h (by decide +kernel)
    · rw [if_neg (by rw [hd]; decide)] at h
      split at h
      · exact absurd h (by decide +kernel)
      · split at h
        · exact absurd h (by decide +kernel)
        · rename_i hn
          by_cases e : kindL l m.tgt = "file"
          · exact e
          · exact absurd ⟨hl, e⟩ hn
theorem stepL_len {l : LTr} {m : Mem} : (stepL l m).at'.length ≤ l.at'.length + (aboveP m.nm).length + 1 ∧ (stepL l m).files.length ≤ l.files.length + 1 := by
  have h : ∀ (z : Str) (x : LT) (a : List Str), (putA (putDf l.at' a) z x).length ≤ l.at'.length + a.length + 1 := fun z x a => Nat.le_trans put_len (Nat.add_le_add_right putDf_len 1)
  cases m with
  | file n b t ns => exact ⟨h _ _ _, by show (l.files ++ [_]).length ≤ _; rw [List.length_append]; exact Nat.le_refl _⟩
  | sparse n b t z sp => exact ⟨h _ _ _, by show (l.files ++ [_]).length ≤ _; rw [List.length_append]; exact Nat.le_refl _⟩
  | dir n b t => exact ⟨h _ _ _, Nat.le_succ _⟩
  | sym n b t g => exact ⟨h _ _ _, Nat.le_succ _⟩
  | lnk n b t g => exact ⟨h _ _ _, Nat.le_succ _⟩
theorem goL_len {l : LTr} {m : Mem} (h : PathD m.nm) : (goL l m).at'.length ≤ l.at'.length + 4 ∧ (goL l m).files.length ≤ l.files.length + 1 := by
  unfold goL
  split
  · have := @stepL_len l m
    have := h.above
    omega
  · omega
theorem Mem.TuN.fifth {H1 H2 H' : Hp} {q : Addr} {m : Mem} (h : m.TuN H1 H2 q) (e : Same H2 H') {a b c d : V} {x : Addr} (g : H' q = some (.tup [a, b, c, d, .ref x])) : H1 x = none := by
  have h3 := h (fun b => if H1 b = none then H2 b else none) fun b o n k => by rw [if_pos n]; exact k
  have key : ∀ y o, (if H1 y = none then H2 y else none) = some o → H1 y = none ∧ H2 y = some o := fun y o k => by
    split at k
    · exact ⟨‹_›, k⟩
    · cases k
  cases m with
  | file n b t ns =>
    obtain ⟨d, k1, k2⟩ := h3
    rw [e _ _ (key _ _ k1).2] at g
    cases g
    exact (key _ _ k2).1
  | sparse n b t z sp =>
    obtain ⟨q1, d, k1, k2, _⟩ := h3
    rw [e _ _ (key _ _ k1).2] at g
    cases g
    exact (key _ _ k2).1
  | dir n b t => have k1 := e _ _ (key _ _ h3).2; rw [k1] at g; cases g
  | sym n b t g0 => have k1 := e _ _ (key _ _ h3).2; rw [k1] at g; cases g
  | lnk n b t g0 => have k1 := e _ _ (key _ _ h3).2; rw [k1] at g; cases g
theorem LTR.but {H H' : Hp} {a T : Addr} {l : LTr} (hs : Src H a) (b : But a H H') (h : LTR H a T l) : LTR H' a T l := by
  obtain ⟨A, F, ps, vs, g⟩ := h
  obtain ⟨i, j, k, hk, _⟩ := hs
  have nt : ∀ {t xs}, H t = some (.tup xs) → t ≠ a := fun h e => by rw [e, hk] at h; cases h
  have nd : ∀ {t xs}, H t = some (.dK xs) → t ≠ a := fun h e => by rw [e, hk] at h; cases h
  have nF : F ≠ a := fun e => by
    have h1 := g.fd
    rw [e, hk] at h1
    cases h1
    have fs := g.fs
    generalize l.files = fl at fs
    cases fs with
    | cons r _ => obtain ⟨q, d, h1, _⟩ := r; cases h1
  exact ⟨A, F, ps, vs, b _ _ (nd g.tr) g.tr, b _ _ (nd g.ad) g.ad, g.at'.mono fun _ _ ⟨t, h1, h2⟩ => ⟨t, h1, b _ _ (nt h2) h2⟩, b _ _ nF g.fd, Paired.mapP g.fs fun _ _ ⟨q, d, h1, h2, h3, h4, h5⟩ => ⟨q, d, h1, b _ _ (nt h2) h2, b _ _ h5 h3, h4, h5⟩, g.ta⟩
section
variable {P : Program} {w : World} {K : PySem.W.Frag} {mg : Str → Option Value} {base : Heap}
def spTreeOf : Sp := fun vs H Q _ => ∃ (a : Addr) (u n : Nat), vs = [.ref a, .int (n : Int)] ∧ SrcB u H a ∧ u ≤ 700000 ∧ n ≤ 12 ∧ ∀ T ms H', H T = none → LTR H' a T (treeL ms) → (∀ m ∈ ms, m.Ok ∧ m.Two ∧ PathD m.nm) → ms.length ≤ n → SrcB (u + 8000) H' a → But a H H' → Q (.ref T) H'
theorem sp_treeof {a : Addr} {u n : Nat} {H : Hp} {Q : VK} {E : XK} (hs : SrcB u H a) (hu : u ≤ 700000) (hn : n ≤ 12) (k : ∀ T ms H', H T = none → LTR H' a T (treeL ms) → (∀ m ∈ ms, m.Ok ∧ m.Two ∧ PathD m.nm) → ms.length ≤ n → SrcB (u + 8000) H' a → But a H H' → Q (.ref T) H') : spTreeOf ([.ref a, .int (n : Int)] ++ []) H Q E := ⟨a, u, n, rfl, hs, hu, hn, k⟩
theorem ok_ltreeof {f : Addr} {fd : FuncData} {k : Nat} (F : Fun K "_law_tree_of" "_law_tree_of" s__law_tree_of f fd) (c_ltree : CalT P w K mg base 2 "_law_tree" spLTree) (c_specs : CalT P w K mg base 5 "_law_specs" spSpecs) (c_lword : CalT P w K mg base 3 "_law_word" spLWord) (c_lstepped : CalT P w K mg base 3 "_law_stepped" spLStep) : FnOk P w K mg base CX0 (k + 6) f fd ["_law_source_here", "_law_most"] spTreeOf := by
  refine F.ok sc__law_tree_of (fun vs H Q E h => ?_) (fun cdv A outer s H vs Q E hr h => ?_)
  · obtain ⟨a, u, n, rfl, _⟩ := h
    rfl
  · obtain ⟨a, u, n, rfl, hs, hu9, hn, q⟩ := h
    have hu := hu_of hr
    have nd := sc__law_tree_of.nd
    refine ⟨_, (pss_cons (ps_set (i := 2) nd rfl (Or.inl rfl) (pe_cc0 c_ltree hr (by omega) (by rfl)))
      (pss_cons (ps_for PassesOwn.never rfl (pi_list (pe_cc c_specs hr (by omega) (by rfl) (pa_cons (pv 0) (pa_cons (pv 1) pa_nil)))) (pg_name (i := 3) nd rfl (Or.inl rfl))
        (pss_one (ps_set (i := 2) nd rfl (Or.inl rfl) (pe_ifExp (pt_cmpR op_eq (pe_cc c_lword hr (by omega) (by rfl) (pa_cons (pv 2) (pa_cons (pv 3) pa_nil))) pe_str (nomark _)) (pe_cc c_lstepped hr (by omega) (by rfl) (pa_cons (pv 2) (pa_cons (pv 3) pa_nil))) (pv 2)))))
      (pss_one (ps_ret (pv 2))))), ?_⟩
    walk_at "rd"
    refine sp_ltree fun T0 H1 n0 e0 hT0 => ?_
    have hs1 := hs.same e0
    walk_at "rd"
    refine sp_specs hs1 hu9 hn fun L as ms H2 nL gL hms hml hs2 hb2 => ?_
    refine ⟨L, rfl, ⟨_, SqL.of gL⟩, ?_⟩
    have hT2 : LTR H2 a T0 ⟨[], []⟩ := (hT0 a).but hs1.src hb2
    have hok : ∀ m ∈ ms, m.Ok ∧ m.Two ∧ PathD m.nm := by
      intro m hm
      obtain ⟨i, hi⟩ := List.mem_iff_getElem?.mp hm
      obtain ⟨hlt, _⟩ := List.getElem?_eq_some_iff.mp hi
      obtain ⟨y, hy, hr⟩ := paired_at hms (List.getElem?_eq_getElem (show i < as.length by rw [hms.length]; exact hlt))
      rw [hi] at hy
      cases hy
      exact hr.2
    have hb : But a H H2 := (Same.but e0).trans hb2
    refine for_it (walk_list (xs := as.map V.ref)) (fun i σ H' => ∃ (T : Addr) (v : Option V), σ = [some (.ref a), some (.int (n : Int)), some (.ref T), v] ∧ Same H2 H' ∧ H T = none ∧ LTR H' a T (treeL (ms.take i)) ∧ (treeL (ms.take i)).at'.length ≤ 4 * i ∧ (treeL (ms.take i)).files.length ≤ i) ?_ (fun i σ H' _ ⟨_, _, _, e, _⟩ => SqL.of (e _ _ gL)) ?_ ?_
    · exact ⟨T0, _, rfl, .refl _, n0, hT2, Nat.le_refl _, Nat.le_refl _⟩
    · rintro i x σ Hc H' hi ⟨T, v, rfl, es, nT, hT, l1, l2⟩ ⟨rfl, hx⟩
      rw [List.getElem?_map] at hx
      obtain ⟨qa, hqa, rfl⟩ := Option.map_eq_some_iff.mp hx
      obtain ⟨m, hmi, hmt, hmo, hmw, hmp⟩ := paired_at hms hqa
      have hi12 : i < 12 := by
        obtain ⟨hlt, _⟩ := List.getElem?_eq_some_iff.mp hmi
        omega
      have hsn := @treeL_snoc (ms.take i) m
      rw [← take_snoc hmi] at hsn
      have gl := @goL_len (treeL (ms.take i)) m hmp
      rw [← hsn] at gl
      have hn250 : m.nm.length ≤ 250 := (of_name hmp.name).2.1
      walk_at "rd"
      refine sp_lword hT (hmt.at.same es) hn250 fun H4 e4 => ?_
      walk_at "rd"
      rw [dec_strV]
      have hT4 := hT.same e4
      refine r_iteD (fun hw => ?_) (fun hw => ?_)
      · have b4 : But a H H4 := hb.trans (Same.but (es.trans e4))
        have hs4 := hs2.same (es.trans e4)
        walk_at "rd"
        refine sp_lstep (by obtain ⟨x, y, z, h1, _⟩ := hs4.src; rw [h1]; rfl) (fun _ _ _ _ x h => hs1.src.ne (hmt.fifth (es.trans e4) h)) hT4 ((hmt.at.same es).same e4) hmo hmw hn250 (by omega) (by omega) (wordL_lnk hw) fun T9 H9 n9 e9 hT9 => ?_
        walk_at "rd"
        refine ⟨T9, _, rfl, es.trans (e4.trans e9), But.back hs.src hs4.src b4 n9, ?_, by omega, by omega⟩
        rw [hsn]
        unfold goL
        rw [if_pos hw]
        exact hT9
      · walk_at "rd"
        refine ⟨T, _, rfl, es.trans e4, nT, ?_, by omega, by omega⟩
        rw [hsn]
        unfold goL
        rw [if_neg hw]
        exact hT4
    · rintro σ Hc ⟨T, v, rfl, es, nT, hT, _, _⟩
      rw [List.length_map, hms.length, List.take_length] at hT
      walk_at "rd"
      exact q T ms _ nT hT hok hml (hs2.same es) (hb.trans (Same.but es))
end
abbrev s__law_entries : Stmt := topS 83
abbrev N__law_entries : List Str := ["_law_tree_here", "_law_found", "_law_first", "_law_name", "_law_thing", "_law_word_here", "_law_numbers_here", "_law_bits", "_law_time_here"]
theorem sc__law_entries : FnScope N__law_entries ["_law_tree_here"] (defScope s__law_entries) := ⟨rfl, rfl, rfl, by decide +kernel, rfl, by decide +kernel, by decide +kernel⟩
/-! ### the entries of the law's tree -/
/-- the first path with a file -/
def fstL (l : LTr) (ys : List Str) (i : Nat) : Option Str := ys.find? fun p => match look l.at' p with | some (.fil j) => decide (j = i) | _ => false
def fileL (l : LTr) (i : Nat) : Thg := match l.files[i]? with | some x => .file (byteArr x.ns) x.m x.t | none => .lnk ""
def rowL (l : LTr) (ys : List Str) (z : Str) : Thg :=
  match look l.at' z with
  | some (.dir m t) => .dir m t
  | some (.sym g m t) => .sym g m t
  | some (.fil i) => if fstL l ys i = some z then fileL l i else .lnk ((fstL l ys i).getD "")
  | none => .lnk ""
def entL (l : LTr) (ys : List Str) : List (Str × Thg) := ys.map fun z => (z, rowL l ys z)
theorem fstL_snoc {l : LTr} {a : List Str} {z : Str} {j : Nat} : fstL l (a ++ [z]) j = (fstL l a j).or (match look l.at' z with | some (.fil k) => if k = j then some z else none | _ => none) := by
  unfold fstL
  rw [List.find?_append]
  congr 1
  rw [List.find?_cons]
  cases look l.at' z with
  | none => rfl
  | some x =>
    cases x with
    | dir m t => rfl
    | sym g m t => rfl
    | fil k => by_cases h : k = j <;> simp [h]
theorem fstL_pre {l : LTr} {ys : List Str} {i j : Nat} {f : Str} (h : fstL l (ys.take i) j = some f) : fstL l ys j = some f := by
  unfold fstL at h ⊢
  rw [← List.take_append_drop i ys, List.find?_append, h]
  rfl
/-- what the entries ask of a tree -/
structure EntT (l : LTr) : Prop where
  few : l.at'.length < 64
  nd : (l.at'.map (·.1)).Nodup
  ix : ∀ z i, look l.at' z = some (.fil i) → i < l.files.length
  byt : ∀ x ∈ l.files, x.ns.all inByte = true ∧ x.ns.length ≤ 70000
section
variable {P : Program} {w : World} {K : PySem.W.Frag} {mg : Str → Option Value} {base : Heap}
def spLEnts (K : PySem.W.Frag) : Sp := fun vs H Q _ => ∃ (B T : Addr) (l : LTr), vs = [.ref T] ∧ LTR H B T l ∧ EntT l ∧ ∀ E ys H', H E = none → ys.Perm (l.at'.map (·.1)) → sortedS ys = true → Same H H' → EntL K H' E (entL l ys) → Q (.ref E) H'
theorem ok_lents {f : Addr} {fd : FuncData} {k : Nat} (F : Fun K "_law_entries" "_law_entries" s__law_entries f fd) (m1 : mg "sorted" = none) (c_blob : CalT P w K mg base 4 "blob" spBlob) : FnOk P w K mg base CX0 (k + 5) f fd ["_law_tree_here"] (spLEnts K) := by
  refine F.ok sc__law_entries (fun vs H Q E h => ?_) (fun cdv A outer s H vs Q E hr h => ?_)
  · obtain ⟨B, T, l, rfl, _⟩ := h
    rfl
  · obtain ⟨B, T, l, rfl, hT, hl, q⟩ := h
    have hu := hu_of hr
    have nd := sc__law_entries.nd
    refine ⟨_, (pss_cons (ps_par (i := 1) (j := 2) rfl nd rfl rfl (by decide) rfl rfl (pa_cons (pe_lst pa_nil) (pa_cons pe_dnewK pa_nil)) (by rfl))
      (pss_cons (ps_for PassesOwn.never rfl (pi_list (pe_callB (call_sortedD rfl) (by rfl) (by assumption) (by decide +kernel) (pa_cons (pe_dget hu (pv 0) pe_str (fun _ _ => rfl)) pa_nil))) (pg_name (i := 3) nd rfl (Or.inl rfl))
        (pss_cons (ps_set (i := 4) nd rfl (Or.inl rfl) (pe_dget hu (pe_dget hu (pv 0) pe_str (fun _ _ => rfl)) (pv 3) (fun _ _ => rfl)))
      (pss_one (ps_if (pt_cmpR op_ne (pe_ix (ix_tupK K) (pv 4) pe_int (fun _ _ => rfl)) pe_str (nomark _))
        (pss_one (ps_expr (pe_bm PySem.F.plainAttrs_list PySem.F.slot_list_append PySem.F.type_list_append mt_append (pv 1) (pa_cons (pe_tup (pa_cons (pv 3) (pa_cons (pv 4) pa_nil))) pa_nil))))
        (pss_one (ps_if (pt_cmp (pc_din hu (pe_ix (ix_tupK K) (pv 4) pe_int (fun _ _ => rfl)) (pv 2)))
        (pss_one (ps_expr (pe_bm PySem.F.plainAttrs_list PySem.F.slot_list_append PySem.F.type_list_append mt_append (pv 1) (pa_cons (pe_tup (pa_cons (pv 3) (pa_cons (pe_tup (pa_cons pe_str (pa_cons (pe_dget hu (pv 2) (pe_ix (ix_tupK K) (pv 4) pe_int (fun _ _ => rfl)) (fun _ _ => rfl)) pa_nil))) pa_nil))) pa_nil))))
        (pss_cons (ps_dput hu (pv 2) (pe_ix (ix_tupK K) (pv 4) pe_int (fun _ _ => rfl)) (pv 3) rfl)
      (pss_cons (ps_asg (pe_ix (ix_listK K) (pe_dget hu (pv 0) pe_str (fun _ _ => rfl)) (pe_ix (ix_tupK K) (pv 4) pe_int (fun _ _ => rfl)) (fun _ _ => rfl)) (pg_tupK K (pg_tup rfl (pgs_cons (pg_name (i := 5) nd rfl (Or.inl rfl)) (pgs_cons (pg_name (i := 6) nd rfl (Or.inl rfl)) (pgs_cons (pg_name (i := 7) nd rfl (Or.inl rfl)) (pgs_cons (pg_name (i := 8) nd rfl (Or.inl rfl)) pgs_nil)))))))
      (pss_one (ps_expr (pe_bm PySem.F.plainAttrs_list PySem.F.slot_list_append PySem.F.type_list_append mt_append (pv 1) (pa_cons (pe_tup (pa_cons (pv 3) (pa_cons (pe_tup (pa_cons (pv 5) (pa_cons (pe_cc c_blob hr (by omega) (by rfl) (pa_cons (pv 6) pa_nil)) (pa_cons (pv 7) (pa_cons (pv 8) pa_nil))))) pa_nil))) pa_nil))))))))))))
      (pss_one (ps_ret (pv 1))))), ?_⟩
    obtain ⟨A, F, ps, vs, g⟩ := hT
    walk_at "rd"
    rename_i L hL D hD
    have e0 := (same_new (o := HO.lst []) hL).trans (same_new (o := HO.dK []) hD)
    have gL0 : upd (upd H L (.lst [])) D (.dK []) L = some (.lst []) := upd_old hD upd_same
    have gD0 : upd (upd H L (.lst [])) D (.dK []) D = some (.dK []) := upd_same
    have nLD : L ≠ D := ne_of_none upd_same hD
    have hD0 : H D = none := (same_new hL).free hD
    generalize upd (upd H L (.lst [])) D (.dK []) = H0 at e0 gL0 gD0 ⊢
    refine ⟨T, .ref A, rfl, .inl ⟨_, Sum.inr "at", .inl (e0 _ _ g.tr), rfl, rfl⟩, ?_⟩
    walk_at "rd"
    refine ⟨A, ps, l.at'.map (·.1), rfl, .inl (e0 _ _ g.ad), g.at'.keys, by rw [List.length_map]; exact hl.few, fun ys S hp hsrt hS => ?_⟩
    have e1 := e0.trans (same_new (o := HO.lst (ys.map V.str)) hS)
    have gL1 := upd_old (o := HO.lst (ys.map V.str)) hS gL0
    have gD1 := upd_old (o := HO.lst (ys.map V.str)) hS gD0
    have gS1 : upd H0 S (.lst (ys.map V.str)) S = some (.lst (ys.map V.str)) := upd_same
    have nLS : L ≠ S := ne_of_none gL0 hS
    have nDS : D ≠ S := ne_of_none gD0 hS
    generalize upd H0 S (.lst (ys.map V.str)) = H1 at e1 gL1 gD1 gS1 ⊢
    refine ⟨S, rfl, ⟨_, SqL.of gS1⟩, ?_⟩
    have g1 := g.same e1
    have hyl : ys.length < 64 := by rw [hp.length_eq, List.length_map]; exact hl.few
    refine for_it (walk_list (xs := ys.map V.str)) (fun i σ H' => ∃ v3 v4 v5 v6 v7 v8 ws fs, σ = [some (.ref T), some (.ref L), some (.ref D), v3, v4, v5, v6, v7, v8] ∧ (∀ b o, b ≠ L → b ≠ D → H1 b = some o → H' b = some o) ∧ H' L = some (.lst ws) ∧ Paired (EntAt K H') ws ((entL l ys).take i) ∧ H' D = some (.dK fs) ∧ fs.length ≤ i ∧ (∀ j : Nat, valV fs (Sum.inl (j : Int)) = (fstL l (ys.take i) j).map V.str)) ?_ (fun i σ H' _ ⟨_, _, _, _, _, _, _, _, _, e, _⟩ => SqL.of (e _ _ nLS.symm nDS.symm gS1)) ?_ ?_
    · exact ⟨_, _, _, _, _, _, [], [], rfl, fun _ _ _ _ h => h, gL1, .nil, gD1, Nat.le_refl _, fun _ => rfl⟩
    · rintro i v σ Hc H' hi ⟨v3, v4, v5, v6, v7, v8, ws, fs, rfl, fr, gl, hen, gd, hfl, hfs⟩ ⟨rfl, hv⟩
      rw [List.getElem?_map] at hv
      obtain ⟨z, hz, rfl⟩ := Option.map_eq_some_iff.mp hv
      have hi64 : i < 64 := by
        obtain ⟨hlt, _⟩ := List.getElem?_eq_some_iff.mp hz
        omega
      have hzk : (look l.at' z).isSome = true := look_mem.mpr (hp.mem_iff.mp (List.mem_of_getElem? hz))
      have nAL : A ≠ L := ne_of_none g.ad hL
      have nAD : A ≠ D := ne_of_none g.ad hD0
      have nTL : T ≠ L := ne_of_none g.tr hL
      have nTD : T ≠ D := ne_of_none g.tr hD0
      have wl : ws.length = i := by
        rw [hen.length, List.length_take]
        unfold entL
        rw [List.length_map]
        obtain ⟨hlt, _⟩ := List.getElem?_eq_some_iff.mp hz
        omega
      have hent : (entL l ys)[i]? = some (z, rowL l ys z) := by
        unfold entL
        rw [List.getElem?_map, hz]
        rfl
      walk_at "rd"
      refine ⟨T, .ref A, rfl, .inl ⟨_, Sum.inr "at", .inl (fr _ _ nTL nTD g1.tr), rfl, rfl⟩, ?_⟩
      walk_at "rd"
      rcases g1.at'.get (z := z) with ⟨_, k2⟩ | ⟨v, x, k1, k2, t, rfl, hx⟩
      · rw [k2] at hzk; cases hzk
      refine ⟨A, .ref t, rfl, .inl ⟨ps, Sum.inr z, .inl (fr _ _ nAL nAD g1.ad), rfl, k1.symm⟩, ?_⟩
      have nt : t ≠ L ∧ t ≠ D := by
        constructor
        · intro e
          rw [e, gL1] at hx
          cases hx
        · intro e
          rw [e, gD1] at hx
          cases hx
      have hx' := fr _ _ nt.1 nt.2 hx
      have hsz := take_snoc hz
      have hse := take_snoc hent
      have app : ∀ (H8 : Hp) (u : V) (fs8 : List (Key × V)) (w4 w5 w6 w7 w8 : Option V) (e9 : Addr), H8 e9 = none → (∀ b o, b ≠ L → b ≠ D → H' b = some o → H8 b = some o) → TK H' H8 → H8 L = some (.lst ws) → H8 D = some (.dK fs8) → Thg.At K H8 u (rowL l ys z) → fs8.length ≤ i + 1 → (∀ j : Nat, valV fs8 (Sum.inl (j : Int)) = (fstL l (ys.take (i + 1)) j).map V.str) →
          ∃ v3 v4 v5 v6 v7 v8 ws9 fs9, [some (.ref T), some (.ref L), some (.ref D), some (.str z), w4, w5, w6, w7, w8] = [some (.ref T), some (.ref L), some (.ref D), v3, v4, v5, v6, v7, v8] ∧ (∀ b o, b ≠ L → b ≠ D → H1 b = some o → upd (upd H8 e9 (.tup [.str z, u])) L (.lst (ws ++ [.ref e9])) b = some o) ∧ upd (upd H8 e9 (.tup [.str z, u])) L (.lst (ws ++ [.ref e9])) L = some (.lst ws9) ∧ Paired (EntAt K (upd (upd H8 e9 (.tup [.str z, u])) L (.lst (ws ++ [.ref e9])))) ws9 ((entL l ys).take (i + 1)) ∧ upd (upd H8 e9 (.tup [.str z, u])) L (.lst (ws ++ [.ref e9])) D = some (.dK fs9) ∧ fs9.length ≤ i + 1 ∧ (∀ j : Nat, valV fs9 (Sum.inl (j : Int)) = (fstL l (ys.take (i + 1)) j).map V.str) := by
        intro H8 u fs8 w4 w5 w6 w7 w8 e9 he fr8 tk8 gl8 gd8 hu8 hl8 hf8
        have tkA := tk_new (o := HO.tup [.str z, u]) he
        have tkB := tk_lst (o := HO.lst (ws ++ [.ref e9])) (upd_old (o := HO.tup [.str z, u]) he gl8)
        refine ⟨_, _, _, _, _, _, ws ++ [.ref e9], fs8, rfl, fun b o n1 n2 h => by rw [upd_ne n1]; exact upd_old he (fr8 _ _ n1 n2 (fr _ _ n1 n2 h)), upd_same, ?_, by rw [upd_ne nLD.symm]; exact upd_old he gd8, hl8, hf8⟩
        rw [hse]
        exact paired_snoc (Paired.mapP hen fun _ _ y => y.tk (tk8.trans (tkA.trans tkB))) ⟨e9, u, rfl, sqT_tk tkB (SqT.of upd_same), hu8.tk (tkA.trans tkB)⟩
      walk_at "rd"
      have hk0 : ∃ r, x.vals = .str x.kind :: r := x.vals0
      obtain ⟨r, hr0⟩ := hk0
      refine r_ixT (i := 0) (v := .str x.kind) (SqT.of hx') (by rw [hr0]; exact atI_nat (j := 0) rfl) ?_
      walk_at "rd"
      rw [dec_strV]
      cases x with
      | dir m t9 =>
        have hrow : rowL l ys z = .dir m t9 := by unfold rowL; rw [k2]
        have hfs1 : ∀ j : Nat, valV fs (Sum.inl (j : Int)) = (fstL l (ys.take (i + 1)) j).map V.str := fun j => by rw [hsz, fstL_snoc, k2, hfs j]; simp
        rw [show decide ((LT.dir m t9).kind = Str.ofString "file") = false from (by decide +kernel : decide (("directory" : Str) = "file") = false)]
        walk_at "rd"
        rename_i e9 he9
        exact app H' (.ref t) fs _ _ _ _ _ e9 he9 (fun _ _ _ _ h => h) (TK.refl _) gl gd (by rw [hrow]; exact ⟨t, rfl, SqT.of hx'⟩) (by omega) hfs1
      | sym g9 m t9 =>
        have hrow : rowL l ys z = .sym g9 m t9 := by unfold rowL; rw [k2]
        have hfs1 : ∀ j : Nat, valV fs (Sum.inl (j : Int)) = (fstL l (ys.take (i + 1)) j).map V.str := fun j => by rw [hsz, fstL_snoc, k2, hfs j]; simp
        rw [show decide ((LT.sym g9 m t9).kind = Str.ofString "file") = false from (by decide +kernel : decide (("symlink" : Str) = "file") = false)]
        walk_at "rd"
        rename_i e9 he9
        exact app H' (.ref t) fs _ _ _ _ _ e9 he9 (fun _ _ _ _ h => h) (TK.refl _) gl gd (by rw [hrow]; exact ⟨t, rfl, SqT.of hx'⟩) (by omega) hfs1
      | fil j =>
        have hj := hl.ix _ _ k2
        rw [show decide ((LT.fil j).kind = Str.ofString "file") = true from (by decide +kernel : decide (("file" : Str) = "file") = true)]
        have hyn : ys.Nodup := hp.nodup_iff.mpr hl.nd
        walk_at "rd"
        refine ⟨D, valV fs (Sum.inl (j : Int)), rfl, .inl ⟨fs, Sum.inl (j : Int), .inl gd, rfl, rfl⟩, _, rfl, ?_⟩
        rw [hfs j]
        cases hf : fstL l (ys.take i) j with
        | some f =>
          have hzf : ¬ f = z := fun e => by
            have h1 : f ∈ ys.take i := by unfold fstL at hf; exact List.mem_of_find?_eq_some hf
            rw [e] at h1
            have h2 : (ys.take (i + 1)).Nodup := hyn.sublist (List.take_sublist _ _)
            rw [hsz, List.nodup_append] at h2
            exact h2.2.2 z h1 z (List.mem_singleton.mpr rfl) rfl
          have hrow : rowL l ys z = .lnk f := by
            unfold rowL
            rw [k2]
            dsimp only
            rw [fstL_pre hf, if_neg (fun e => hzf (Option.some.inj e))]
            rfl
          have hfs1 : ∀ j : Nat, valV fs (Sum.inl (j : Int)) = (fstL l (ys.take (i + 1)) j).map V.str := fun j' => by
            rw [hsz, fstL_snoc, k2, hfs j']
            dsimp only
            by_cases e : j = j'
            · rw [← e, hf]; rfl
            · rw [if_neg e, Option.or_none]
          rw [if_pos (show (Option.map V.str (some f)).isSome = true from rfl)]
          walk_at "rd"
          refine ⟨D, .str f, rfl, .inl ⟨fs, Sum.inl (j : Int), .inl gd, rfl, by rw [hfs j, hf]; rfl⟩, ?_⟩
          walk_at "rd"
          rename_i t1 ht1 e9 he9
          exact app (upd H' t1 (.tup [.str "link", .str f])) (.ref t1) fs _ _ _ _ _ e9 he9 (fun b o _ _ h => upd_old ht1 h) (tk_new ht1) (upd_old ht1 gl) (upd_old ht1 gd) (by rw [hrow]; exact ⟨t1, rfl, SqT.of upd_same⟩) (by omega) hfs1
        | none =>
          have hrow : rowL l ys z = fileL l j := by
            unfold rowL
            rw [k2]
            dsimp only
            have h1 : fstL l (ys.take (i + 1)) j = some z := by
              rw [hsz, fstL_snoc, k2, hf]
              simp
            rw [fstL_pre h1, if_pos rfl]
          have hfs1 : ∀ j' : Nat, valV (putK fs (Sum.inl (j : Int)) (.str z)) (Sum.inl (j' : Int)) = (fstL l (ys.take (i + 1)) j').map V.str := fun j' => by
            rw [hsz, fstL_snoc, k2, valV_put, hfs j']
            dsimp only
            by_cases e : j = j'
            · rw [← e, hf, if_pos rfl, if_pos rfl]; rfl
            · rw [if_neg e, if_neg (fun h => e (by injection h with h; omega)), Option.or_none]
          obtain ⟨w9, hw9⟩ : ∃ w9, vs[j]? = some w9 := ⟨_, List.getElem?_eq_getElem (show j < vs.length by rw [g.fs.length]; exact hj)⟩
          obtain ⟨x, hxj, q9, d9, rfl, hq9, hd9, _, _⟩ := paired_at g.fs hw9
          have hfl9 : fileL l j = .file (byteArr x.ns) x.m x.t := by unfold fileL; rw [hxj]
          obtain ⟨hb1, hb2⟩ := hl.byt x (List.mem_of_getElem? hxj)
          have nFL : F ≠ L := ne_of_none g.fd hL
          have nFD : F ≠ D := ne_of_none g.fd hD0
          have tkD := tk_dK (o := HO.dK (putK fs (Sum.inl (j : Int)) (.str z))) gd
          have fr5 : ∀ b o, b ≠ L → b ≠ D → H1 b = some o → upd H' D (.dK (putK fs (Sum.inl (j : Int)) (.str z))) b = some o := fun b o n1 n2 h => by rw [upd_ne n2]; exact fr _ _ n1 n2 h
          have old5 : ∀ b o, H b = some o → upd H' D (.dK (putK fs (Sum.inl (j : Int)) (.str z))) b = some o := fun b o h => fr5 _ _ (ne_of_none h hL) (ne_of_none h hD0) (e1 _ _ h)
          have fr5' : ∀ b o, b ≠ L → b ≠ D → H' b = some o → upd H' D (.dK (putK fs (Sum.inl (j : Int)) (.str z))) b = some o := fun b o _ n2 h => by rw [upd_ne n2]; exact h
          have gl5 : upd H' D (.dK (putK fs (Sum.inl (j : Int)) (.str z))) L = some (.lst ws) := by rw [upd_ne nLD]; exact gl
          have gd5 : upd H' D (.dK (putK fs (Sum.inl (j : Int)) (.str z))) D = some (.dK (putK fs (Sum.inl (j : Int)) (.str z))) := upd_same
          have hx5 := fr5' _ _ nt.1 nt.2 hx'
          have gT5 := old5 _ _ g.tr
          have gF5 := old5 _ _ g.fd
          have gq5 := old5 _ _ hq9
          have ge5 := old5 _ _ hd9
          have pl5 : (putK fs (Sum.inl (j : Int)) (V.str z)).length ≤ i + 1 := by
            unfold putK
            split
            · rw [List.length_map]; omega
            · rw [List.length_append]; show fs.length + 1 ≤ i + 1; omega
          rw [if_neg (show ¬ (Option.map V.str (none : Option Str)).isSome = true by decide)]
          refine r_seq ?_
          walk_at "rd"
          refine ⟨D, _, rfl, DPut.k (k := Sum.inl (j : Int)) gd (Nat.lt_of_le_of_lt (by omega : fs.length ≤ 100) (by decide)), ?_⟩
          generalize upd H' D (.dK (putK fs (Sum.inl (j : Int)) (.str z))) = H5 at tkD fr5 old5 fr5' gl5 gd5 hx5 gT5 gF5 gq5 ge5 ⊢
          walk_at "rd"
          refine ⟨T, .ref F, rfl, .inl ⟨_, Sum.inr "files", .inl gT5, rfl, rfl⟩, ?_⟩
          walk_at "rd"
          refine r_ixL (SqL.of gF5) (atI_nat hw9) ?_
          walk_at "rd"
          refine sp_blob ge5 hb2 hb1 fun H6 e6 => ?_
          have gl6 := e6 _ _ gl5
          walk_at "rd"
          rename_i t1 ht1 e9 he9
          exact app (upd H6 t1 (.tup [.str "file", .byt (byteArr x.ns), .int x.m, .int x.t])) (.ref t1) (putK fs (Sum.inl (j : Int)) (.str z)) _ _ _ _ _ e9 he9 (fun b o n1 n2 h => upd_old ht1 (e6 _ _ (fr5' _ _ n1 n2 h))) ((tkD.trans (Same.tk e6)).trans (tk_new ht1)) (upd_old ht1 gl6) (upd_old ht1 (e6 _ _ gd5)) (by rw [hrow, hfl9]; exact ⟨t1, rfl, SqT.of upd_same⟩) pl5 hfs1
    · rintro σ Hc ⟨v3, v4, v5, v6, v7, v8, ws, fs, rfl, fr, gl, hen, gd, hfl, hfs⟩
      rw [List.length_map, List.take_of_length_le (by unfold entL; rw [List.length_map]; exact Nat.le_refl _)] at hen
      walk_at "rd"
      exact q L ys _ hL hp hsrt (fun b o h => fr _ _ (ne_of_none h hL) (ne_of_none h hD0) (e1 _ _ h)) ⟨ws, SqL.of gl, hen⟩
end
/-! ### what is true of the tree that members lead to -/
theorem fold_len : ∀ {sp : List (Int × List Int)} {acc : List Int}, (∀ s ∈ sp, 0 ≤ s.1 ∧ s.1 + (s.2.length : Int) ≤ (acc.length : Int)) → (sp.foldl splI acc).length = acc.length
  | [], _, _ => rfl
  | s :: r, acc, h => by
    have h0 := h s List.mem_cons_self
    have e := splI_len h0.1 h0.2
    show (r.foldl splI (splI acc s)).length = _
    rw [fold_len (fun q hq => by rw [e]; exact h q (List.mem_cons_of_mem _ hq)), e]
theorem splI_byt {acc : List Int} {s : Int × List Int} (h : acc.all inByte = true) (hs : s.2.all inByte = true) : (splI acc s).all inByte = true := by
  unfold splI
  rw [List.all_append, List.all_append, hs, Bool.and_true, Bool.and_eq_true]
  constructor
  · rw [List.all_eq_true] at h ⊢
    exact fun x hx => h x (List.mem_of_mem_take hx)
  · rw [List.all_eq_true] at h ⊢
    exact fun x hx => h x (List.mem_of_mem_drop hx)
theorem fold_byt : ∀ {sp : List (Int × List Int)} {acc : List Int}, acc.all inByte = true → (∀ s ∈ sp, s.2.all inByte = true) → (sp.foldl splI acc).all inByte = true
  | [], _, h, _ => h
  | s :: r, acc, h, k => fold_byt (sp := r) (splI_byt h (k s List.mem_cons_self)) fun q hq => k q (List.mem_cons_of_mem _ hq)
theorem cont_ok {m : Mem} (h : m.Ok) : (contL m).all inByte = true ∧ (contL m).length ≤ 70000 := by
  cases m with
  | file n b t ns => exact ⟨h.2.2, Nat.le_trans h.2.1 (by decide)⟩
  | sparse n b t z sp =>
    obtain ⟨_, z0, z1, _, hso, hb⟩ := h
    have hl : (sp.foldl splI (List.replicate z.toNat 0)).length = (List.replicate z.toNat (0 : Int)).length := fold_len fun s hs => by
      have g := spansOk_all (Int.le_refl 0) hso (s.1, (s.2.length : Int)) (List.mem_map.mpr ⟨s, hs, rfl⟩)
      rw [List.length_replicate]
      have g3 : s.1 + (s.2.length : Int) ≤ z := g.2.2
      exact ⟨g.1, by omega⟩
    refine ⟨fold_byt ?_ hb, ?_⟩
    · rw [List.all_eq_true]
      intro x hx
      rw [(List.mem_replicate.mp hx).2]
      decide
    · show (sp.foldl splI (List.replicate z.toNat 0)).length ≤ 70000
      rw [hl, List.length_replicate]
      omega
  | dir n b t => exact ⟨rfl, Nat.zero_le _⟩
  | sym n b t g => exact ⟨rfl, Nat.zero_le _⟩
  | lnk n b t g => exact ⟨rfl, Nat.zero_le _⟩
theorem putDf_nd : ∀ {a : List Str} {l : List (Str × LT)}, (l.map (·.1)).Nodup → ((putDf l a).map (·.1)).Nodup
  | [], _, h => h
  | p :: a, l, h => putDf_nd (a := a) (by split <;> first | exact h | exact put_nd h)
theorem putDf_fil {z : Str} {i : Nat} : ∀ {a : List Str} {l : List (Str × LT)}, look (putDf l a) z = some (.fil i) → look l z = some (.fil i)
  | [], _, h => h
  | p :: a, l, h => by
    have g := putDf_fil (a := a) h
    split at g
    · exact g
    · rw [look_put] at g
      split at g
      · cases g
      · exact g
structure TrI (l : LTr) : Prop where
  nd : (l.at'.map (·.1)).Nodup
  ix : ∀ z i, look l.at' z = some (.fil i) → i < l.files.length
  byt : ∀ x ∈ l.files, x.ns.all inByte = true ∧ x.ns.length ≤ 70000
theorem TrI.nil : TrI ⟨[], []⟩ := ⟨List.nodup_nil, (fun _ _ h => by cases h), (fun _ h => by cases h)⟩
theorem TrI.step {l : LTr} {m : Mem} (h : TrI l) (ho : m.Ok) (hk : m.isLnk = true → kindL l m.tgt = "file") : TrI (stepL l m) := by
  have nd : ∀ (z : Str) (x : LT) (a : List Str), ((putA (putDf l.at' a) z x).map (·.1)).Nodup := fun z x a => put_nd (putDf_nd h.nd)
  have old : ∀ {n : Str} {x : LT} {a : List Str} {z : Str} {i : Nat}, look (putA (putDf l.at' a) n x) z = some (.fil i) → x = .fil i ∨ i < l.files.length := by
    intro n x a z i g
    rw [look_put] at g
    split at g
    · exact .inl (Option.some.inj g)
    · exact .inr (h.ix _ _ (putDf_fil g))
  have snoc : ∀ x : LFl, x.ns.all inByte = true ∧ x.ns.length ≤ 70000 → ∀ y ∈ l.files ++ [x], y.ns.all inByte = true ∧ y.ns.length ≤ 70000 := fun x hx y hy => (List.mem_append.mp hy).elim (h.byt y) fun e => by rw [List.mem_singleton.mp e]; exact hx
  have fl : ∀ (x : LFl) (i : Nat), LT.fil l.files.length = .fil i ∨ i < l.files.length → i < (l.files ++ [x]).length := fun x i e => by
    rw [List.length_append]
    show i < l.files.length + 1
    rcases e with e | e
    · injection e with e; omega
    · omega
  cases m with
  | file n b t ns => exact ⟨nd _ _ _, fun z i g => fl _ _ (old g), snoc _ (cont_ok ho)⟩
  | sparse n b t z sp => exact ⟨nd _ _ _, fun z i g => fl _ _ (old g), snoc _ (cont_ok ho)⟩
  | dir n b t => exact ⟨nd _ _ _, fun z i g => (old g).elim (fun e => nomatch e) id, h.byt⟩
  | sym n b t g => exact ⟨nd _ _ _, fun z i g => (old g).elim (fun e => nomatch e) id, h.byt⟩
  | lnk n b t g =>
    obtain ⟨j, hj⟩ := kindL_file (hk rfl)
    have hj : look l.at' g = some (.fil j) := hj
    refine ⟨nd _ _ _, fun z i q => (old q).elim (fun e => ?_) id, h.byt⟩
    rw [hj] at e
    injection e with e
    exact e ▸ h.ix _ _ hj
theorem TrI.go {l : LTr} {m : Mem} (h : TrI l) (ho : m.Ok) : TrI (goL l m) := by
  unfold goL
  split
  · exact h.step ho (wordL_lnk ‹_›)
  · exact h
theorem TrI.fold : ∀ {ms : List Mem} {l : LTr}, TrI l → (∀ m ∈ ms, m.Ok ∧ m.Two ∧ PathD m.nm) → TrI (ms.foldl goL l) ∧ (ms.foldl goL l).at'.length ≤ l.at'.length + 4 * ms.length
  | [], _, h, _ => ⟨h, Nat.le_refl _⟩
  | m :: r, l, h, k => by
    have k0 := k m List.mem_cons_self
    have g := TrI.fold (ms := r) (h.go k0.1) fun q hq => k q (List.mem_cons_of_mem _ hq)
    have gl := @goL_len l m k0.2.2
    refine ⟨g.1, ?_⟩
    show (r.foldl goL (goL l m)).at'.length ≤ _
    rw [List.length_cons]
    omega
/-! ### joined paths, pure -/
theorem jn_inj {ps qs : List Str} (h1 : ps ≠ []) (h2 : qs ≠ []) (p1 : ∀ p ∈ ps, 47 ∉ TL.tl p) (p2 : ∀ p ∈ qs, 47 ∉ TL.tl p) (e : jn ps = jn qs) : ps = qs := by
  rw [← split_jn h1 p1, e, split_jn h2 p2]
theorem str_assoc (a b c : Str) : a ++ b ++ c = a ++ (b ++ c) := TL.ext_tl (by simp only [TL.tl_append, List.append_assoc])
theorem jn_snoc : ∀ {ps : List Str} {p : Str}, ps ≠ [] → jn (ps ++ [p]) = jn ps ++ "/" ++ p := by
  intro ps p h
  unfold jn
  rw [TL.join_eq, TL.join_eq]
  induction ps with
  | nil => exact absurd rfl h
  | cons a r ih =>
    cases r with
    | nil => rfl
    | cons b r =>
      show a ++ "/" ++ Str.join "/" ((b :: r) ++ [p]) = (a ++ "/" ++ Str.join "/" (b :: r)) ++ "/" ++ p
      rw [ih (by simp)]
      simp only [str_assoc]
theorem above_jn {ps : List Str} (hne : ps ≠ []) (hp : ∀ p ∈ ps, 47 ∉ TL.tl p) : aboveP (jn ps) = (List.range (ps.length - 1)).map fun i => jn (ps.take (i + 1)) := by
  unfold aboveP
  rw [split_jn hne hp]
  rfl
theorem at_slash {a b : Str} (hb : 47 ∉ TL.tl b) {k : Nat} : StrLaws.At (a ++ "/" ++ b) "/" (a ++ "/" ++ b).length k → k ≤ a.length := by
  intro h
  have h2 := (StrLaws.subAt_one (a ++ "/" ++ b) 47 k).mp h
  have e : (a ++ "/" ++ b).cps.toList = TL.tl a ++ ([47] ++ TL.tl b) := by
    show TL.tl (a ++ "/" ++ b) = _
    rw [TL.tl_append, TL.tl_append, slash47, List.append_assoc]
  rw [e] at h2
  have hl := TL.len_tl a
  by_cases hk : k ≤ a.length
  · exact hk
  · rw [List.getElem?_append_right (by omega), List.getElem?_append_right (by show 1 ≤ _; omega)] at h2
    exact absurd (List.mem_of_getElem? h2) hb
theorem dirP_cat {a b : Str} (hb : 47 ∉ TL.tl b) : dirP (a ++ "/" ++ b) = a := by
  unfold dirP Txt.rpartition
  have hl := TL.len_tl a
  have ha : StrLaws.At (a ++ "/" ++ b) "/" (a ++ "/" ++ b).length a.length := by
    refine (StrLaws.subAt_one (a ++ "/" ++ b) 47 a.length).mpr ?_
    show (TL.tl (a ++ "/" ++ b))[a.length]? = some 47
    rw [TL.tl_append, TL.tl_append, slash47, List.append_assoc, List.getElem?_append_right (by omega), hl, Nat.sub_self]
    rfl
  rcases StrLaws.last_spec (a ++ "/" ++ b) "/" with ⟨_, h⟩ | ⟨i, h, h1, h2⟩
  · exact absurd ha (h _)
  · rw [h]
    have h3 := at_slash hb h1
    have h4 : i = a.length := by
      by_cases g : i < a.length
      · exact absurd ha (h2 _ g)
      · omega
    subst h4
    refine TL.ext_tl ?_
    show TL.tl (Builtin.Str.strSub (a ++ "/" ++ b) 0 a.length) = TL.tl a
    rw [TL.tl_strSub, List.drop_zero, TL.tl_append, TL.tl_append, List.append_assoc, Nat.sub_zero, hl, List.take_left]
theorem dirP_one {b : Str} (hb : 47 ∉ TL.tl b) : dirP b = "" := by
  unfold dirP Txt.rpartition
  rcases StrLaws.last_spec b "/" with ⟨h, _⟩ | ⟨i, h, h1, _⟩
  · rw [h]
    rfl
  · have h2 := (StrLaws.subAt_one b 47 i).mp h1
    exact absurd (List.mem_of_getElem? h2) hb
/-- the parts of a drawn path -/
theorem glue_len {z : Str} {r : List Str} (h : ∀ y ∈ z :: r, charsB y = true) : charsB (jn (z :: r)) = true ∧ (jn (z :: r)).length = z.length + (r.map fun z => z.length + 1).sum :=
  glue_ok r z (h z List.mem_cons_self) fun y hy => h y (List.mem_cons_of_mem _ hy)
theorem sum_takeL : ∀ (r : List Str) (i : Nat), ((r.take i).map fun z => z.length + 1).sum ≤ (r.map fun z => z.length + 1).sum
  | [], i => by rw [List.take_nil]; exact Nat.le_refl _
  | z :: r, 0 => Nat.zero_le _
  | z :: r, i + 1 => by
    have h := sum_takeL r i
    rw [List.take_succ_cons, List.map_cons, List.sum_cons, List.map_cons, List.sum_cons]
    omega
theorem PathD.up {z w : Str} (h : PathD z) (hw : w ∈ aboveP z) : PathD w ∧ ∀ v ∈ aboveP w, v ∈ aboveP z := by
  obtain ⟨p, r, rfl, h1, h3, h4, h5, h2, h6⟩ := h
  have hs : ∀ y ∈ p :: r, 47 ∉ TL.tl y := fun y hy => (ptB_3 (h1 y hy)).2.2
  have ha := above_jn (ps := p :: r) (by simp) hs
  rw [ha] at hw ⊢
  obtain ⟨i, hi, rfl⟩ := List.mem_map.mp hw
  rw [List.mem_range, List.length_cons] at hi
  have ht : (p :: r).take (i + 1) = p :: r.take i := rfl
  have h1' : ∀ y ∈ p :: r.take i, ptB y = true := fun y hy => h1 y (by rw [← ht] at hy; exact List.mem_of_mem_take hy)
  have gz := glue_len fun y hy => (ptB_3 (h1 y hy)).1
  have gw := glue_len fun y hy => (ptB_3 (h1' y hy)).1
  have st := sum_takeL r i
  have z250 := (of_name h2).2.1
  constructor
  · refine ⟨p, r.take i, by rw [ht], h1', h3, h4, by rw [List.length_take]; omega, ?_⟩
    rw [ht]
    exact ⟨name_of (by omega) (by omega) gw.1, h6.imp (fun e => by rw [e, List.take_nil]) id⟩
  · intro v hv
    rw [ht, above_jn (by simp) (fun y hy => (ptB_3 (h1' y hy)).2.2)] at hv
    obtain ⟨j, hj, rfl⟩ := List.mem_map.mp hv
    rw [List.mem_range, List.length_cons, List.length_take] at hj
    refine List.mem_map.mpr ⟨j, List.mem_range.mpr (by rw [List.length_cons]; omega), ?_⟩
    show jn (p :: r.take j) = jn (p :: (r.take i).take j)
    rw [List.take_take, Nat.min_eq_left (by omega)]
theorem PathD.dir {z : Str} (h : PathD z) : dirP z = "" ∨ dirP z ∈ aboveP z := by
  obtain ⟨p, r, rfl, h1, h3, h4, h5, h2⟩ := h
  have hs : ∀ y ∈ p :: r, 47 ∉ TL.tl y := fun y hy => (ptB_3 (h1 y hy)).2.2
  cases r with
  | nil => exact .inl (dirP_one (hs p List.mem_cons_self))
  | cons q r =>
    refine .inr ?_
    have hl : (q :: r).length < (p :: q :: r).length := Nat.lt_succ_self _
    have e := take_snoc (List.getElem?_eq_getElem hl)
    rw [List.take_of_length_le (show (p :: q :: r).length ≤ (q :: r).length + 1 from Nat.le_refl _)] at e
    rw [above_jn (by simp) hs]
    have hd : dirP (jn (p :: q :: r)) = jn ((p :: q :: r).take (q :: r).length) := by
      rw [show jn (p :: q :: r) = jn ((p :: q :: r).take (q :: r).length ++ [(p :: q :: r)[(q :: r).length]]) by rw [← e], jn_snoc (by rw [List.length_cons, List.take_succ_cons]; simp), dirP_cat (hs _ (List.getElem_mem hl))]
    rw [hd]
    exact List.mem_map.mpr ⟨r.length, List.mem_range.mpr (by simp), rfl⟩
/-- a path of one part with a z is above no drawn path -/
theorem PathD.lone {z n : Str} (h : PathD z) (hn : 47 ∉ TL.tl n) (hz : 122 ∈ TL.tl n) : n ∉ aboveP z := fun hw => by
  obtain ⟨p, r, rfl, h1, h3, h4, h5, h2, h6⟩ := h
  have hs : ∀ y ∈ p :: r, 47 ∉ TL.tl y := fun y hy => (ptB_3 (h1 y hy)).2.2
  rw [above_jn (by simp) hs] at hw
  obtain ⟨i, hi, e⟩ := List.mem_map.mp hw
  rw [List.mem_range, List.length_cons] at hi
  have h7 := jn_inj (ps := (p :: r).take (i + 1)) (qs := [n]) (by simp) (by simp) (fun y hy => hs y (List.mem_of_mem_take hy)) (fun y hy => by rw [List.mem_singleton.mp hy]; exact hn) e
  rw [List.take_succ_cons] at h7
  injection h7 with h7 _
  rcases h6 with h6 | h6
  · rw [h6] at hi
    exact absurd hi (by show ¬ i < 0; omega)
  · rw [h7] at h6
    exact h6 hz
/-! ### the tree is a house's -/
theorem putDf_get {p : Str} : ∀ {a : List Str} {l : List (Str × LT)}, look (putDf l a) p = if p ∈ a then some ((look l p).getD (.dir 493 0)) else look l p
  | [], l => by rw [if_neg (by simp)]; rfl
  | q :: a, l => by
    show look (putDf (if (look l q).isSome = true then l else putA l q (.dir 493 0)) a) p = _
    rw [putDf_get (a := a)]
    have hl : look (if (look l q).isSome = true then l else putA l q (.dir 493 0)) p = if p = q then some ((look l p).getD (.dir 493 0)) else look l p := by
      by_cases hq : (look l q).isSome = true
      · rw [if_pos hq]
        by_cases e : p = q
        · rw [if_pos e, e]
          obtain ⟨x, hx⟩ := Option.isSome_iff_exists.mp hq
          rw [hx]
          rfl
        · rw [if_neg e]
      · rw [if_neg hq, look_put]
        by_cases e : p = q
        · rw [if_pos e, if_pos e, e]
          cases h : look l q with
          | none => rfl
          | some x => rw [h] at hq; exact absurd rfl hq
        · rw [if_neg e, if_neg e]
    rw [hl]
    by_cases e : p = q
    · rw [if_pos e, if_pos (show p ∈ q :: a from e ▸ List.mem_cons_self)]
      split <;> rfl
    · rw [if_neg e]
      by_cases h : p ∈ a
      · rw [if_pos h, if_pos (List.mem_cons_of_mem _ h)]
      · rw [if_neg h, if_neg (fun k => (List.mem_cons.mp k).elim e h)]
theorem PathD.notUp {z : Str} (h : PathD z) : z ∉ aboveP z := fun hw => by
  obtain ⟨p, r, rfl, h1, h3, h4, h5, h2⟩ := h
  have hs : ∀ y ∈ p :: r, 47 ∉ TL.tl y := fun y hy => (ptB_3 (h1 y hy)).2.2
  rw [above_jn (by simp) hs] at hw
  obtain ⟨i, hi, e⟩ := List.mem_map.mp hw
  rw [List.mem_range, List.length_cons] at hi
  have h6 := jn_inj (ps := (p :: r).take (i + 1)) (qs := p :: r) (by simp) (by simp) (fun y hy => hs y (List.mem_of_mem_take hy)) hs e
  have h7 := congrArg List.length h6
  rw [List.length_take, List.length_cons] at h7
  omega
def LT.Ok : LT → Prop
  | .dir m t => 0 ≤ m ∧ m ≤ 4095 ∧ 0 ≤ t ∧ t ≤ 8589934591
  | .fil _ => True
  | .sym g m t => nameB g = true ∧ 0 ≤ m ∧ m ≤ 4095 ∧ 0 ≤ t ∧ t ≤ 8589934591
structure TrP (l : LTr) : Prop where
  key : ∀ z x, look l.at' z = some x → PathD z ∧ x.Ok
  par : ∀ z x, look l.at' z = some x → ∀ p ∈ aboveP z, ∃ m t, look l.at' p = some (.dir m t)
  fok : ∀ x ∈ l.files, x.ns.length ≤ 4096 ∧ 0 ≤ x.m ∧ x.m ≤ 4095 ∧ 0 ≤ x.t ∧ x.t ≤ 8589934591
theorem wordL_up {l : LTr} {m : Mem} (h : wordL l m = "") : ∀ p ∈ aboveP m.nm, upB l p = true := by
  unfold wordL at h
  split at h
  · exact absurd h (by decide +kernel)
  · split at h
    · exact absurd h (by decide +kernel)
    · rename_i hn
      rw [Bool.not_eq_false, List.all_eq_true] at hn
      exact hn
theorem wordL_dir {l : LTr} {m : Mem} (h : wordL l m = "") (hk : kindL l m.nm = "directory") : m.isDir = true := by
  cases hd : m.isDir with
  | true => rfl
  | false =>
    unfold wordL at h
    split at h
    · exact absurd h (by decide +kernel)
    · split at h
      · exact absurd h (by decide +kernel)
      · first | rw [if_neg (by rw [hd]; decide), if_pos hk] at h | rw [if_neg (by rw [hd]; decide)] at h
        exact absurd h (by decide +kernel)
/-- a new thing at a path under directories -/
theorem TrP.put {l : LTr} {n : Str} {x : LT} {fs : List LFl} (h : TrP l) (hn : PathD n) (hx : x.Ok) (up : ∀ p ∈ aboveP n, upB l p = true) (hd : kindL l n = "directory" → ∃ m t, x = .dir m t) (hf : ∀ x ∈ fs, x.ns.length ≤ 4096 ∧ 0 ≤ x.m ∧ x.m ≤ 4095 ∧ 0 ≤ x.t ∧ x.t ≤ 8589934591) : TrP ⟨putA (putDf l.at' (aboveP n)) n x, fs⟩ := by
  have get : ∀ z, look (putA (putDf l.at' (aboveP n)) n x) z = if z = n then some x else if z ∈ aboveP n then some ((look l.at' z).getD (.dir 493 0)) else look l.at' z := fun z => by rw [look_put, putDf_get]
  have upd : ∀ p ∈ aboveP n, ∃ m t, (look l.at' p).getD (.dir 493 0) = .dir m t := fun p hp => by
    have h1 := up p hp
    unfold upB kindL at h1
    cases e : look l.at' p with
    | none => exact ⟨_, _, rfl⟩
    | some y =>
      rw [e] at h1
      cases y with
      | dir m t => exact ⟨m, t, rfl⟩
      | fil i => exact absurd h1 (by decide +kernel : ¬ (("absent" : Str) == "file" || ("directory" : Str) == "file") = true)
      | sym g m t => exact absurd h1 (by decide +kernel : ¬ (("absent" : Str) == "symlink" || ("directory" : Str) == "symlink") = true)
  have upn : ∀ p ∈ aboveP n, ∃ m t, look (putA (putDf l.at' (aboveP n)) n x) p = some (.dir m t) := fun p hp => by
    obtain ⟨m, t, e⟩ := upd p hp
    refine ⟨m, t, ?_⟩
    rw [get, if_neg (fun e1 : p = n => hn.notUp (e1 ▸ hp)), if_pos hp, e]
  refine ⟨fun z y hz => ?_, fun z y hz p hp => ?_, hf⟩
  · have hz : look (putA (putDf l.at' (aboveP n)) n x) z = some y := hz
    rw [get] at hz
    split at hz
    · rename_i e
      cases hz
      exact ⟨e ▸ hn, hx⟩
    · split at hz
      · rename_i hu
        refine ⟨(hn.up hu).1, ?_⟩
        cases e : look l.at' z with
        | none => rw [e] at hz; cases hz; exact (by decide : (0 : Int) ≤ 493 ∧ (493 : Int) ≤ 4095 ∧ (0 : Int) ≤ 0 ∧ (0 : Int) ≤ 8589934591)
        | some q => rw [e] at hz; cases hz; exact (h.key _ _ e).2
      · exact h.key _ _ hz
  · have hz : look (putA (putDf l.at' (aboveP n)) n x) z = some y := hz
    show ∃ m t, look (putA (putDf l.at' (aboveP n)) n x) p = some (.dir m t)
    rw [get] at hz
    split at hz
    · rename_i e
      exact upn p (e ▸ hp)
    · split at hz
      · rename_i hu
        exact upn p ((hn.up hu).2 p hp)
      · obtain ⟨m, t, e⟩ := h.par _ _ hz p hp
        rw [get]
        split
        · rename_i e2
          obtain ⟨m, t, e3⟩ := hd (by unfold kindL; rw [← e2, e]; rfl)
          exact ⟨m, t, by rw [e3]⟩
        · split
          · exact ⟨m, t, by rw [e]; rfl⟩
          · exact ⟨m, t, e⟩
/-! ### the entries are a house's -/
theorem Mem.okS {m : Mem} (h : m.Ok) : 0 ≤ m.bits ∧ m.bits ≤ 4095 ∧ 0 ≤ m.tm ∧ m.tm ≤ 8589934591 := by
  cases m with
  | file n b t ns => exact h.1.2
  | sparse n b t z sp => exact h.1.2
  | dir n b t => exact h.2
  | sym n b t g => exact h.1.2
  | lnk n b t g => exact h.1.2
theorem cont_few {m : Mem} (h : m.Ok) : (contL m).length ≤ 4096 := by
  cases m with
  | file n b t ns => exact h.2.1
  | sparse n b t z sp =>
    obtain ⟨_, z0, z1, _, hso, hb⟩ := h
    have hl : (sp.foldl splI (List.replicate z.toNat 0)).length = (List.replicate z.toNat (0 : Int)).length := fold_len fun s hs => by
      have g := spansOk_all (Int.le_refl 0) hso (s.1, (s.2.length : Int)) (List.mem_map.mpr ⟨s, hs, rfl⟩)
      rw [List.length_replicate]
      have g3 : s.1 + (s.2.length : Int) ≤ z := g.2.2
      exact ⟨g.1, by omega⟩
    show (sp.foldl splI (List.replicate z.toNat 0)).length ≤ 4096
    rw [hl, List.length_replicate]
    omega
  | dir n b t => exact Nat.zero_le _
  | sym n b t g => exact Nat.zero_le _
  | lnk n b t g => exact Nat.zero_le _
theorem TrP.nil : TrP ⟨[], []⟩ := ⟨(fun _ _ h => by cases h), (fun _ _ h => by cases h), (fun _ h => by cases h)⟩
theorem TrP.go {l : LTr} {m : Mem} (h : TrP l) (ho : m.Ok) (hn : PathD m.nm) : TrP (goL l m) := by
  unfold goL
  split
  · rename_i hw
    have up := wordL_up hw
    have hd := wordL_dir hw
    have st := m.okS ho
    have fs : ∀ x : LFl, (x.ns.length ≤ 4096 ∧ 0 ≤ x.m ∧ x.m ≤ 4095 ∧ 0 ≤ x.t ∧ x.t ≤ 8589934591) → ∀ y ∈ l.files ++ [x], y.ns.length ≤ 4096 ∧ 0 ≤ y.m ∧ y.m ≤ 4095 ∧ 0 ≤ y.t ∧ y.t ≤ 8589934591 := fun x hx y hy => (List.mem_append.mp hy).elim (h.fok y) fun e => by rw [List.mem_singleton.mp e]; exact hx
    cases m with
    | file n b t ns => exact h.put (x := .fil l.files.length) hn True.intro up (fun k => by cases hd k) (fs ⟨ns, b, t⟩ ⟨cont_few ho, st⟩)
    | sparse n b t z sp => exact h.put (x := .fil l.files.length) hn True.intro up (fun k => by cases hd k) (fs ⟨_, b, t⟩ ⟨cont_few ho, st⟩)
    | dir n b t => exact h.put (x := .dir b t) hn st up (fun _ => ⟨b, t, rfl⟩) h.fok
    | sym n b t g => exact h.put (x := .sym g b t) hn ⟨ho.2, st⟩ up (fun k => by cases hd k) h.fok
    | lnk n b t g =>
      obtain ⟨j, hj⟩ := kindL_file (wordL_lnk hw rfl)
      have hj : look l.at' g = some (.fil j) := hj
      refine h.put (n := n) (x := (look l.at' g).getD (.dir 0 0)) hn ?_ up (fun k => by cases hd k) h.fok
      rw [hj]
      exact True.intro
  · exact h
theorem TrP.fold : ∀ {ms : List Mem} {l : LTr}, TrP l → (∀ m ∈ ms, m.Ok ∧ m.Two ∧ PathD m.nm) → TrP (ms.foldl goL l)
  | [], _, h, _ => h
  | m :: r, l, h, k => TrP.fold (ms := r) (h.go (k m List.mem_cons_self).1 (k m List.mem_cons_self).2.2) fun q hq => k q (List.mem_cons_of_mem _ hq)
theorem treeL_house {ms : List Mem} (h : ∀ m ∈ ms, m.Ok ∧ m.Two ∧ PathD m.nm) : TrP (treeL ms) := TrP.fold TrP.nil h
/-! ### the entries of a tree are a house's -/
theorem entL_look {l : LTr} {ys : List Str} {p : Str} : look (entL l ys) p = if p ∈ ys then some (rowL l ys p) else none := look_map
theorem entL_keys {l : LTr} {ys : List Str} : (entL l ys).map (·.1) = ys := by
  unfold entL
  rw [List.map_map]
  exact List.map_id _
theorem fstL_in {l : LTr} {ys : List Str} {i : Nat} {f : Str} (h : fstL l ys i = some f) : f ∈ ys ∧ look l.at' f = some (.fil i) := by
  unfold fstL at h
  have h1 := List.find?_some h
  refine ⟨List.mem_of_find?_eq_some h, ?_⟩
  cases e : look l.at' f with
  | none => rw [e] at h1; cases h1
  | some x =>
    rw [e] at h1
    cases x with
    | dir m t => cases h1
    | sym g m t => cases h1
    | fil j => rw [show j = i from of_decide_eq_true h1]
theorem fstL_some {l : LTr} {ys : List Str} {i : Nat} {z : Str} (hz : z ∈ ys) (h : look l.at' z = some (.fil i)) : ∃ f, fstL l ys i = some f := by
  cases e : fstL l ys i with
  | some f => exact ⟨f, rfl⟩
  | none =>
    unfold fstL at e
    have := List.find?_eq_none.mp e z hz
    rw [h] at this
    simp at this
theorem fileL_ok {l : LTr} (h : TrP l) {i : Nat} (hi : i < l.files.length) : (fileL l i).kind = "file" ∧ (fileL l i).Ok := by
  unfold fileL
  rw [List.getElem?_eq_getElem hi]
  have := h.fok _ (List.getElem_mem hi)
  exact ⟨rfl, by show (byteArr _).size ≤ 4096; simp only [byteArr, List.size_toArray, List.length_map]; exact this.1, this.2⟩
theorem rowL_file {l : LTr} {ys : List Str} {i : Nat} {f : Str} (h : fstL l ys i = some f) : rowL l ys f = fileL l i := by
  unfold rowL
  rw [(fstL_in h).2]
  dsimp only
  rw [if_pos h]
theorem entL_ok {l : LTr} {ys : List Str} (h : TrP l) (g : EntT l) (hp : ys.Perm (l.at'.map (·.1))) : EntOk (entL l ys) := by
  have hin : ∀ z, z ∈ ys ↔ (look l.at' z).isSome = true := fun z => hp.mem_iff.trans look_mem.symm
  refine ⟨fun q hq => ?_, ?_, fun q hq => ?_⟩
  · obtain ⟨z, hz, rfl⟩ := List.mem_map.mp hq
    obtain ⟨x, hx⟩ := Option.isSome_iff_exists.mp ((hin z).mp hz)
    have k := h.key _ _ hx
    refine ⟨k.1.path, ?_⟩
    show (rowL l ys z).Ok
    unfold rowL
    rw [hx]
    cases x with
    | dir m t => exact k.2
    | sym s m t => exact k.2
    | fil i =>
      dsimp only
      split
      · exact (fileL_ok h (g.ix _ _ hx)).2
      · exact True.intro
  · show ((entL l ys).map (·.1)).Nodup
    rw [entL_keys]
    exact hp.nodup_iff.mpr g.nd
  · obtain ⟨z, hz, rfl⟩ := List.mem_map.mp hq
    obtain ⟨x, hx⟩ := Option.isSome_iff_exists.mp ((hin z).mp hz)
    have k := h.key _ _ hx
    show standsB (entL l ys) z = true
    unfold standsB
    rw [Bool.and_eq_true]
    constructor
    · rcases k.1.dir with e | e
      · rw [decide_eq_true e]; rfl
      · obtain ⟨m, t, e2⟩ := h.par _ _ hx _ e
        rw [Bool.or_eq_true]
        refine .inr (decide_eq_true ?_)
        unfold kindA
        rw [entL_look, if_pos ((hin _).mpr (by rw [e2]; rfl))]
        unfold rowL
        rw [e2]
        rfl
    · rw [entL_look, if_pos hz]
      unfold rowL
      rw [hx]
      cases x with
      | dir m t => rfl
      | sym s m t => rfl
      | fil i =>
        dsimp only
        obtain ⟨f, hf⟩ := fstL_some hz hx
        have hfo := fileL_ok h (g.ix _ _ hx)
        rw [hf]
        split
        · rename_i e
          split at e
          · have h1 := hfo.1
            rw [Option.some.inj e] at h1
            exact absurd h1 (by decide +kernel : ¬ ("link" : Str) = "file")
          · cases e
            refine decide_eq_true ?_
            unfold kindA
            show ((look (entL l ys) f).map Thg.kind).getD "" = _
            rw [entL_look, if_pos (fstL_in hf).1, rowL_file hf]
            exact hfo.1
        · rfl
/-! ### the rows of the house of entries -/
theorem find_congr {α : Type} {a b : α → Bool} : ∀ {l : List α}, (∀ x ∈ l, a x = b x) → l.find? a = l.find? b
  | [], _ => rfl
  | x :: l, h => by
    rw [List.find?_cons, List.find?_cons, h x List.mem_cons_self, find_congr (l := l) fun y hy => h y (List.mem_cons_of_mem _ hy)]
theorem mkOf_look {L : List (Str × Thg)} {g : Str → Thg} {z : Str} : ∀ {ys : List Str}, look (mkOf L (ys.map fun p => (p, g p))) z = if z ∈ ys ∧ (thingP L (firstN (z, g z))).kind = "file" then some (Sum.inr (firstN (z, g z))) else none
  | [] => by rw [if_neg (by simp)]; rfl
  | y :: ys => by
    show look ((if (thingP L (firstN (y, g y))).kind = "file" then [(y, (Sum.inr (firstN (y, g y)) : Key))] else []) ++ mkOf L (ys.map fun p => (p, g p))) z = _
    rw [look_app, mkOf_look (ys := ys)]
    by_cases e : y = z
    · subst e
      by_cases k : (thingP L (firstN (y, g y))).kind = "file"
      · rw [if_pos k, look_cons, if_pos rfl, Option.some_or]
        exact (if_pos (⟨List.mem_cons_self, k⟩ : y ∈ y :: ys ∧ (thingP L (firstN (y, g y))).kind = "file")).symm
      · rw [if_neg k, if_neg (fun h : y ∈ ys ∧ _ => k h.2), if_neg (fun h : y ∈ y :: ys ∧ _ => k h.2)]
        rfl
    · have h1 : look (if (thingP L (firstN (y, g y))).kind = "file" then [(y, (Sum.inr (firstN (y, g y)) : Key))] else []) z = none := by
        split
        · rw [look_cons, if_neg e]; rfl
        · rfl
      rw [h1, Option.none_or]
      by_cases h : z ∈ ys ∧ (thingP L (firstN (z, g z))).kind = "file"
      · rw [if_pos h, if_pos ⟨List.mem_cons_of_mem _ h.1, h.2⟩]
      · rw [if_neg h, if_neg (fun k => (List.mem_cons.mp k.1).elim (fun q => e q.symm) (fun q => h ⟨q, k.2⟩))]
theorem entL_rows {l : LTr} {ys : List Str} (h : TrP l) (g : EntT l) (hp : ys.Perm (l.at'.map (·.1))) : (hsOf (thOf (entL l ys) (entL l ys)) (mkOf (entL l ys) (entL l ys)) ys).rows = entL l ys := by
  have hin : ∀ z, z ∈ ys ↔ (look l.at' z).isSome = true := fun z => hp.mem_iff.trans look_mem.symm
  have tE : ∀ z, z ∈ ys → thingP (entL l ys) z = rowL l ys z := fun z hz => by unfold thingP; rw [entL_look, if_pos hz]; rfl
  have tT : ∀ z, z ∈ ys → thingP (thOf (entL l ys) (entL l ys)) z = thingP (entL l ys) (firstN (z, rowL l ys z)) := fun z hz => by
    unfold thingP
    rw [show thOf (entL l ys) (entL l ys) = ys.map fun z => (z, thingP (entL l ys) (firstN (z, rowL l ys z))) by unfold thOf entL; rw [List.map_map]; rfl, look_map, if_pos hz]
    rfl
  have mk : ∀ z, look (mkOf (entL l ys) (entL l ys)) z = if z ∈ ys ∧ (thingP (entL l ys) (firstN (z, rowL l ys z))).kind = "file" then some (Sum.inr (firstN (z, rowL l ys z))) else none := fun z => mkOf_look (L := entL l ys) (g := rowL l ys) (ys := ys)
  have rowD : ∀ z x, look l.at' z = some x → (∀ i, x ≠ .fil i) → firstN (z, rowL l ys z) = z ∧ ¬ (rowL l ys z).kind = "file" := fun z x hx hn => by
    unfold rowL
    rw [hx]
    cases x with
    | dir m t => exact ⟨rfl, (by decide +kernel : ¬ ("directory" : Str) = "file")⟩
    | sym s m t => exact ⟨rfl, (by decide +kernel : ¬ ("symlink" : Str) = "file")⟩
    | fil i => exact absurd rfl (hn i)
  have rowF : ∀ z i f, look l.at' z = some (.fil i) → fstL l ys i = some f → firstN (z, rowL l ys z) = f := fun z i f hx hf => by
    have hfo := fileL_ok h (g.ix _ _ hx)
    unfold rowL
    rw [hx]
    dsimp only
    rw [hf]
    split
    · rename_i e
      unfold firstN
      dsimp only
      split
      · rename_i e2
        have h1 := hfo.1
        rw [e2] at h1
        exact absurd h1 (by decide +kernel : ¬ ("link" : Str) = "file")
      · exact (Option.some.inj e).symm
    · rfl
  show (ys.map fun p => (p, rowP (thOf (entL l ys) (entL l ys)) (mkOf (entL l ys) (entL l ys)) ys p)) = ys.map fun z => (z, rowL l ys z)
  refine List.map_congr_left fun z hz => ?_
  congr 1
  obtain ⟨x, hx⟩ := Option.isSome_iff_exists.mp ((hin z).mp hz)
  by_cases hf : ∃ i, x = .fil i
  · obtain ⟨i, rfl⟩ := hf
    obtain ⟨f, hf⟩ := fstL_some hz hx
    have hfi := fstL_in hf
    have hfo := fileL_ok h (g.ix _ _ hx)
    have kf : (thingP (entL l ys) f).kind = "file" := by rw [tE f hfi.1, rowL_file hf]; exact hfo.1
    have mz : look (mkOf (entL l ys) (entL l ys)) z = some (Sum.inr f) := by rw [mk, rowF z i f hx hf, if_pos ⟨hz, kf⟩]
    have fm : firstM (mkOf (entL l ys) (entL l ys)) ys (Sum.inr f) = some f := by
      rw [← hf]
      unfold firstM fstL
      refine find_congr fun p hp => ?_
      obtain ⟨y, hy⟩ := Option.isSome_iff_exists.mp ((hin p).mp hp)
      rw [hy, mk]
      cases y with
      | dir m t =>
        have k := rowD p _ hy (fun i e => by cases e)
        rw [if_neg (fun q => k.2 (by have := q.2; rw [k.1, tE p hp] at this; exact this))]
        rfl
      | sym s m t =>
        have k := rowD p _ hy (fun i e => by cases e)
        rw [if_neg (fun q => k.2 (by have := q.2; rw [k.1, tE p hp] at this; exact this))]
        rfl
      | fil j =>
        obtain ⟨f', hf'⟩ := fstL_some hp hy
        have kf' : (thingP (entL l ys) f').kind = "file" := by rw [tE f' (fstL_in hf').1, rowL_file hf']; exact (fileL_ok h (g.ix _ _ hy)).1
        rw [rowF p j f' hy hf', if_pos ⟨hp, kf'⟩]
        dsimp only
        refine decide_eq_decide.mpr ⟨fun e => ?_, fun e => ?_⟩
        · have e : f' = f := by injection e with e; injection e
          have h1 := (fstL_in hf').2
          rw [e, hfi.2] at h1
          injection h1 with h1
          injection h1 with h1
          exact h1.symm
        · rw [e, hf] at hf'
          rw [Option.some.inj hf']
    have fo : firstOf (mkOf (entL l ys) (entL l ys)) ys z = f := by
      unfold firstOf
      rw [mz]
      show (firstM _ ys (Sum.inr f)).getD z = f
      rw [fm]
      rfl
    unfold rowP
    rw [fo]
    by_cases e : f = z
    · rw [if_pos e, tT z hz, rowF z i f hx hf, tE f hfi.1, e]
    · rw [if_neg e]
      unfold rowL
      rw [hx]
      dsimp only
      rw [hf, if_neg (fun q => e (Option.some.inj q))]
      rfl
  · have k := rowD z x hx (fun i e => hf ⟨i, e⟩)
    have mz : look (mkOf (entL l ys) (entL l ys)) z = none := by rw [mk, k.1, tE z hz, if_neg (fun q => k.2 q.2)]
    have fo : firstOf (mkOf (entL l ys) (entL l ys)) ys z = z := by
      unfold firstOf
      rw [mz]
      rfl
    unfold rowP
    rw [fo, if_pos rfl, tT z hz, k.1, tE z hz]
/-! ### a tree of the program beside a tree of the law -/
def LT.thg (g : Nat → Thg) : LT → Thg
  | .dir m t => .dir m t
  | .fil i => g i
  | .sym s m t => .sym s m t
/-- the mark of a path -/
def mkA (mk : Nat → Key) : Option LT → Option Key
  | some (.fil j) => some (mk j)
  | _ => none
/-- f: what stands at a path; g: the files -/
structure Sim (f : Str → Option LT) (g : Nat → Thg) (t : Trd) (mk : Nat → Key) : Prop where
  th : ∀ z, look t.things z = (f z).map (LT.thg g)
  mks : ∀ z, look t.marks z = mkA mk (f z)
  inj : ∀ z j z' j', f z = some (.fil j) → f z' = some (.fil j') → mk j = mk j' → j = j'
  new : ∀ z j i, f z = some (.fil j) → mk j = Sum.inl i → i ≤ t.many
  nd : (t.things.map (·.1)).Nodup
  gk : ∀ z j, f z = some (.fil j) → (g j).kind = "file"
theorem Sim.nil {g : Nat → Thg} {mk : Nat → Key} : Sim (fun _ => none) g ⟨[], [], 0⟩ mk := ⟨fun _ => rfl, fun _ => rfl, (fun _ _ _ _ h => by cases h), (fun _ _ _ h => by cases h), List.nodup_nil, (fun _ _ h => by cases h)⟩
theorem kind_dirN : ¬ ("directory" : Str) = "file" := by decide +kernel
theorem kind_symN : ¬ ("symlink" : Str) = "file" := by decide +kernel
theorem Sim.step {f f' : Str → Option LT} {g g' : Nat → Thg} {t : Trd} {mk : Nat → Key} (h : Sim f g t mk) {m : Mem} {x : LT}
    (hf : ∀ z, f' z = if z = m.nm then some x else if z ∈ aboveP m.nm then some ((f z).getD (.dir 493 0)) else f z)
    (up : ∀ p ∈ aboveP m.nm, f p = none ∨ ∃ a b, f p = some (.dir a b)) (hg : ∀ z i, f z = some (.fil i) → g' i = g i)
    (hx : (m.isLnk = true ∧ f m.tgt = some x ∧ ∃ j, x = .fil j) ∨ (∃ y, m.thg = some y ∧ ¬ y.kind = "file" ∧ x.thg g' = y ∧ ∀ j, x ≠ .fil j) ∨ (∃ y j, m.thg = some y ∧ y.kind = "file" ∧ x = .fil j ∧ g' j = y ∧ ∀ z, f z ≠ some (.fil j))) :
    ∃ mk', Sim f' g' (putM t m) mk' := by
  have upf : ∀ p ∈ aboveP m.nm, ∀ j, f p ≠ some (.fil j) := fun p hp j e => by
    rcases up p hp with h1 | ⟨a, b, h1⟩ <;> rw [h1] at e <;> cases e
  -- what stands there afterwards, but at the new path
  have old : ∀ z, z ≠ m.nm → look (putM t m).things z = (f' z).map (LT.thg g') := fun z hz => by
    rw [putM_th, if_neg hz, hf, if_neg hz, h.th]
    have ee : ∀ y, f z = some y → y.thg g' = y.thg g := fun y hy => by
      cases y with
      | dir a b => rfl
      | sym s a b => rfl
      | fil i => exact hg z i hy
    split
    · cases e : f z with
      | none => rfl
      | some y => show some (y.thg g) = some (y.thg g'); rw [ee y e]
    · cases e : f z with
      | none => rfl
      | some y => show some (y.thg g) = some (y.thg g'); rw [ee y e]
  have oldm : ∀ z mk', z ≠ m.nm → (∀ j, f z = some (.fil j) → mk' j = mk j) → look (putM t m).marks z = mkA mk' (f' z) := fun z mk' hz hm => by
    rw [putM_mk, if_neg hz, hf, if_neg hz, h.mks]
    split
    · rename_i hu
      rcases up z hu with h1 | ⟨a, b, h1⟩ <;> rw [h1] <;> rfl
    · cases e : f z with
      | none => rfl
      | some y =>
        cases y with
        | dir a b => rfl
        | sym s a b => rfl
        | fil i => show some (mk i) = some (mk' i); rw [hm i e]
  have oldf : ∀ z j, z ≠ m.nm → f' z = some (.fil j) → f z = some (.fil j) := fun z j hz e => by
    rw [hf, if_neg hz] at e
    split at e
    · rename_i hu
      rcases up z hu with h1 | ⟨a, b, h1⟩ <;> rw [h1] at e <;> cases e
    · exact e
  have atn : f' m.nm = some x := by rw [hf, if_pos rfl]
  have nd' : ((putM t m).things.map (·.1)).Nodup := put_nd (putAb_nd h.nd)
  have my : (putM t m).many = t.many + 1 := rfl
  rcases hx with ⟨hl, hx, j, rfl⟩ | ⟨y, hy, yk, hxy, hn⟩ | ⟨y, j, hy, yk, rfl, hgj, hfr⟩
  · -- a link
    have ht : m.thg' (putAb t.things (aboveP m.nm)) m.tgt = g j := by
      unfold Mem.thg'
      rw [if_pos hl]
      unfold thingP
      have e : look t.things m.tgt = some (g j) := by rw [h.th, hx]; rfl
      rw [putAb_get, e]
      split <;> rfl
    refine ⟨mk, fun z => ?_, fun z => ?_, fun z i z' i' e e' k => ?_, fun z i n e k => ?_, nd', fun z i e => ?_⟩
    · by_cases hz : z = m.nm
      · rw [hz, atn, putM_th, if_pos rfl, ht]
        exact congrArg some (hg _ _ hx).symm
      · exact old z hz
    · by_cases hz : z = m.nm
      · rw [hz, atn, putM_mk, if_pos rfl, ht, if_pos (h.gk _ _ hx), if_pos hl, h.mks, hx]
        rfl
      · exact oldm z mk hz fun _ _ => rfl
    · have tf : ∀ z i, f' z = some (.fil i) → ∃ w, f w = some (.fil i) := fun z i e => by
        by_cases hz : z = m.nm
        · rw [hz, atn] at e
          exact ⟨m.tgt, hx.trans e⟩
        · exact ⟨z, oldf z i hz e⟩
      obtain ⟨w, hw⟩ := tf z i e
      obtain ⟨w', hw'⟩ := tf z' i' e'
      exact h.inj _ _ _ _ hw hw' k
    · rw [my]
      by_cases hz : z = m.nm
      · rw [hz, atn] at e
        have := h.new m.tgt i n (hx.trans e) k
        omega
      · have := h.new z i n (oldf z i hz e) k
        omega
    · by_cases hz : z = m.nm
      · rw [hz, atn] at e
        cases e
        rw [hg _ _ hx]
        exact h.gk _ _ hx
      · have e1 := oldf z i hz e
        rw [hg _ _ e1]
        exact h.gk _ _ e1
  · -- a directory or symlink
    have hl : m.isLnk = false := Mem.lnkN hy
    have ht : m.thg' (putAb t.things (aboveP m.nm)) m.tgt = y := by
      unfold Mem.thg'
      rw [if_neg (by rw [hl]; decide), hy]
      rfl
    have on : ∀ z i, f' z = some (.fil i) → z ≠ m.nm := fun z i e hz => by
      rw [hz, atn] at e
      exact hn i (Option.some.inj e)
    refine ⟨mk, fun z => ?_, fun z => ?_, fun z i z' i' e e' k => ?_, fun z i n e k => ?_, nd', fun z i e => ?_⟩
    · by_cases hz : z = m.nm
      · rw [hz, atn, putM_th, if_pos rfl, ht, ← hxy]
        rfl
      · exact old z hz
    · by_cases hz : z = m.nm
      · rw [hz, atn, putM_mk, if_pos rfl, ht, if_neg yk]
        cases x with
        | dir a b => rfl
        | sym s a b => rfl
        | fil i => exact absurd rfl (hn i)
      · exact oldm z mk hz fun _ _ => rfl
    · exact h.inj _ _ _ _ (oldf z i (on z i e) e) (oldf z' i' (on z' i' e') e') k
    · have := h.new z i n (oldf z i (on z i e) e) k
      rw [my]
      omega
    · have e1 := oldf z i (on z i e) e
      rw [hg _ _ e1]
      exact h.gk _ _ e1
  · -- a file
    have hl : m.isLnk = false := Mem.lnkN hy
    have ht : m.thg' (putAb t.things (aboveP m.nm)) m.tgt = y := by
      unfold Mem.thg'
      rw [if_neg (by rw [hl]; decide), hy]
      rfl
    have mo : ∀ z i, f z = some (.fil i) → (if i = j then (Sum.inl (t.many + 1) : Key) else mk i) = mk i := fun z i e => if_neg fun (q : i = j) => hfr z (by rw [← q]; exact e)
    have big : ∀ z i, f z = some (.fil i) → mk i ≠ Sum.inl (t.many + 1) := fun z i e k => by
      have := h.new z i _ e k
      omega
    refine ⟨fun i => if i = j then Sum.inl (t.many + 1) else mk i, fun z => ?_, fun z => ?_, fun z i z' i' e e' k => ?_, fun z i n e k => ?_, nd', fun z i e => ?_⟩
    · by_cases hz : z = m.nm
      · rw [hz, atn, putM_th, if_pos rfl, ht, ← hgj]
        rfl
      · exact old z hz
    · by_cases hz : z = m.nm
      · rw [hz, atn, putM_mk, if_pos rfl, ht, if_pos yk, if_neg (by rw [hl]; decide)]
        show _ = some (if j = j then _ else _)
        rw [if_pos rfl]
      · exact oldm z _ hz fun i e => mo z i e
    · by_cases hz : z = m.nm
      · rw [hz, atn] at e
        cases e
        by_cases hz' : z' = m.nm
        · rw [hz', atn] at e'
          cases e'
          rfl
        · have e1 := oldf z' i' hz' e'
          rw [if_pos rfl, mo z' i' e1] at k
          exact absurd k.symm (big z' i' e1)
      · have e0 := oldf z i hz e
        by_cases hz' : z' = m.nm
        · rw [hz', atn] at e'
          cases e'
          rw [if_pos rfl, mo z i e0] at k
          exact absurd k (big z i e0)
        · have e1 := oldf z' i' hz' e'
          rw [mo z i e0, mo z' i' e1] at k
          exact h.inj _ _ _ _ e0 e1 k
    · rw [my]
      by_cases hz : z = m.nm
      · rw [hz, atn] at e
        cases e
        rw [if_pos rfl] at k
        injection k with k
        omega
      · have e0 := oldf z i hz e
        rw [mo z i e0] at k
        have := h.new z i n e0 k
        omega
    · by_cases hz : z = m.nm
      · rw [hz, atn] at e
        cases e
        rw [hgj]
        exact yk
      · have e1 := oldf z i hz e
        rw [hg _ _ e1]
        exact h.gk _ _ e1
/-- the house that comes out has the entries of the law's tree -/
theorem Sim.rows {l : LTr} {t : Trd} {mk : Nat → Key} {ys : List Str} (h : Sim (look l.at') (fileL l) t mk) (hp : ys.Perm (t.things.map (·.1))) : (hsOf t.things t.marks ys).rows = entL l ys := by
  show (ys.map fun p => (p, rowP t.things t.marks ys p)) = ys.map fun z => (z, rowL l ys z)
  refine List.map_congr_left fun z hz => ?_
  congr 1
  have h1 : (look t.things z).isSome = true := look_mem.mpr (hp.mem_iff.mp hz)
  rw [h.th] at h1
  have hmz := h.mks z
  have htz := h.th z
  unfold rowP rowL
  cases hx : look l.at' z with
  | none => rw [hx] at h1; cases h1
  | some x =>
    rw [hx] at hmz htz
    have nof : (∀ i, x ≠ .fil i) → firstOf t.marks ys z = z := fun hn => by
      unfold firstOf
      cases x with
      | dir a b => rw [show look t.marks z = none from hmz]; rfl
      | sym s a b => rw [show look t.marks z = none from hmz]; rfl
      | fil i => exact absurd rfl (hn i)
    have tz : thingP t.things z = x.thg (fileL l) := by unfold thingP; rw [htz]; rfl
    cases x with
    | dir a b => rw [nof (fun i e => by cases e), if_pos rfl, tz]; rfl
    | sym s a b => rw [nof (fun i e => by cases e), if_pos rfl, tz]; rfl
    | fil i =>
      have fm : firstM t.marks ys (mk i) = fstL l ys i := by
        unfold firstM fstL
        refine find_congr fun p hp' => ?_
        rw [h.mks]
        cases hy : look l.at' p with
        | none => rfl
        | some y =>
          cases y with
          | dir a b => rfl
          | sym s a b => rfl
          | fil j =>
            refine decide_eq_decide.mpr ⟨fun e => h.inj _ _ _ _ hy hx (Option.some.inj e), fun e => ?_⟩
            show some (mk j) = some (mk i)
            rw [e]
      obtain ⟨f, hf⟩ := fstL_some hz hx
      have fo : firstOf t.marks ys z = f := by
        unfold firstOf
        rw [show look t.marks z = some (mk i) from hmz, Option.bind_some, fm, hf]
        rfl
      rw [fo, tz]
      dsimp only
      rw [hf]
      by_cases e : f = z
      · rw [if_pos e, if_pos (congrArg some e)]; rfl
      · rw [if_neg e, if_neg (fun k => e (Option.some.inj k))]; rfl
theorem Sim.keys {l : LTr} {t : Trd} {mk : Nat → Key} {ys : List Str} {g : Nat → Thg} (h : Sim (look l.at') g t mk) (hp : ys.Perm (l.at'.map (·.1))) (nd : (l.at'.map (·.1)).Nodup) : (t.things.map (·.1)).Perm ys := by
  refine keys_perm h.nd (hp.nodup_iff.mpr nd) fun p => ?_
  rw [h.th, hp.mem_iff, ← look_mem]
  cases look l.at' p <;> simp
/-! ### the members of the entries of a tree, unpacked -/
theorem byteArr_ints {ns : List Int} (h : ns.all inByte = true) : Bt.nums (byteArr ns).toList = ns := by
  unfold byteArr Bt.nums
  rw [List.all_eq_true] at h
  simp only [List.map_map]
  refine (List.map_congr_left (g := id) fun i hi => ?_).trans (List.map_id _)
  have hb := h i hi
  unfold inByte at hb
  rw [Bool.and_eq_true, decide_eq_true_iff, decide_eq_true_iff] at hb
  show ((i.toNat.toUInt8.toNat : Nat) : Int) = i
  rw [show i.toNat.toUInt8.toNat = i.toNat % 256 from rfl]
  omega
theorem byteArr_nums (y : Array UInt8) : byteArr (Bt.nums y.toList) = y := by
  unfold byteArr Bt.nums
  apply Array.ext'
  rw [List.map_map]
  refine (List.map_congr_left (g := id) fun c _ => ?_).trans (List.map_id _)
  show ((c.toNat : Int).toNat).toUInt8 = c
  rw [Int.toNat_natCast]
  exact UInt8.ofNat_toNat
/-- the member that makes an entry -/
def memR (z : Str) : Thg → Mem
  | .dir m t => .dir z m t
  | .sym g m t => .sym z m t g
  | .lnk f => .lnk z 420 0 f
  | .file y m t => .file z m t (Bt.nums y.toList)
theorem memR_nm {z : Str} {x : Thg} : (memR z x).nm = z := by cases x <;> rfl
def memL (q : List (Str × Thg)) : List Mem := q.map fun e => memR e.1 e.2
theorem fitAll_of : ∀ {ms : List Mem} {t : Trd}, (∀ i m, ms[i]? = some m → Fit2 (putAll t (ms.take i)) m) → FitAll t ms
  | [], _, _ => True.intro
  | m :: r, t, h => ⟨h 0 m rfl, fitAll_of (ms := r) fun i x hx => h (i + 1) x hx⟩
theorem leS_cat (a b : Str) : leS a (a ++ b) := by
  show TL.tl a ≤ TL.tl (a ++ b)
  rw [TL.tl_append]
  exact List.le_append_left
theorem jn_cat : ∀ {ps : List Str} {r : List Str}, ps ≠ [] → ∃ b, jn (ps ++ r) = jn ps ++ b
  | ps, [], _ => ⟨"", by rw [List.append_nil]; exact TL.ext_tl (by rw [TL.tl_append]; exact (List.append_nil _).symm)⟩
  | ps, q :: r, h => by
    obtain ⟨b, hb⟩ := jn_cat (ps := ps ++ [q]) (r := r) (by simp)
    rw [List.append_assoc] at hb
    refine ⟨"/" ++ q ++ b, ?_⟩
    rw [show ps ++ q :: r = ps ++ ([q] ++ r) from rfl, hb, jn_snoc h]
    simp only [str_assoc]
theorem PathD.upS {z w : Str} (h : PathD z) (hw : w ∈ aboveP z) : leS w z := by
  obtain ⟨p, r, rfl, h1, h3, h4, h5, h2⟩ := h
  have hs : ∀ y ∈ p :: r, 47 ∉ TL.tl y := fun y hy => (ptB_3 (h1 y hy)).2.2
  rw [above_jn (by simp) hs] at hw
  obtain ⟨i, hi, rfl⟩ := List.mem_map.mp hw
  obtain ⟨b, hb⟩ := jn_cat (ps := (p :: r).take (i + 1)) (r := (p :: r).drop (i + 1)) (by simp)
  rw [List.take_append_drop] at hb
  rw [hb]
  exact leS_cat _ _
theorem before {ys : List Str} (hs : ys.Pairwise leS) {i : Nat} {z w : Str} (hz : ys[i]? = some z) (hw : w ∈ ys) (le : leS w z) (ne : w ≠ z) : w ∈ ys.take i := by
  rw [← List.take_append_drop i ys] at hw
  rcases List.mem_append.mp hw with h | h
  · exact h
  · obtain ⟨hlt, he⟩ := List.getElem?_eq_some_iff.mp hz
    rw [List.drop_eq_getElem_cons hlt, he] at h
    rcases List.mem_cons.mp h with e | h
    · exact absurd e ne
    · have hd : (z :: ys.drop (i + 1)).Pairwise leS := by
        rw [← he, ← List.drop_eq_getElem_cons hlt]
        exact hs.sublist (List.drop_sublist _ _)
      exact absurd (leS_eq le ((List.pairwise_cons.mp hd).1 w h)) ne
def lookI (l : LTr) (ys : List Str) (z : Str) : Option LT := if z ∈ ys then look l.at' z else none
theorem memL_at {l : LTr} {ys : List Str} {i : Nat} {m : Mem} (h : (memL (entL l ys))[i]? = some m) : ∃ z, ys[i]? = some z ∧ m = memR z (rowL l ys z) := by
  unfold memL entL at h
  rw [List.map_map, List.getElem?_map] at h
  obtain ⟨z, hz, e⟩ := Option.map_eq_some_iff.mp h
  exact ⟨z, hz, e.symm⟩
theorem memL_len {l : LTr} {ys : List Str} : (memL (entL l ys)).length = ys.length := by
  unfold memL entL
  rw [List.length_map, List.length_map]
theorem memR_ok {l : LTr} {ys : List Str} (h : TrP l) (g : EntT l) (hp : ys.Perm (l.at'.map (·.1))) {z : Str} (hz : z ∈ ys) : (memR z (rowL l ys z)).Ok := by
  have hin : ∀ z, z ∈ ys ↔ (look l.at' z).isSome = true := fun z => hp.mem_iff.trans look_mem.symm
  obtain ⟨x, hx⟩ := Option.isSome_iff_exists.mp ((hin z).mp hz)
  have k := h.key _ _ hx
  have kn : nameB z = true := k.1.name
  unfold rowL
  rw [hx]
  cases x with
  | dir m t => exact ⟨kn, k.2⟩
  | sym s m t => exact ⟨⟨kn, k.2.2⟩, k.2.1⟩
  | fil i =>
    dsimp only
    obtain ⟨f, hf⟩ := fstL_some hz hx
    rw [hf]
    by_cases e : some f = some z
    · rw [if_pos e]
      have hi := g.ix _ _ hx
      unfold fileL
      rw [List.getElem?_eq_getElem hi]
      have h1 := h.fok _ (List.getElem_mem hi)
      have h2 := g.byt _ (List.getElem_mem hi)
      refine ⟨⟨kn, h1.2⟩, ?_, ?_⟩
      · show (Bt.nums (byteArr _).toList).length ≤ 4096
        rw [byteArr_ints h2.1]
        exact h1.1
      · show (Bt.nums (byteArr _).toList).all inByte = true
        rw [byteArr_ints h2.1]
        exact h2.1
    · rw [if_neg e]
      have kf := h.key _ _ (fstL_in hf).2
      exact ⟨⟨kn, by decide, by decide, by decide, by decide⟩, kf.1.name⟩
theorem lookI_some {l : LTr} {ys : List Str} {z : Str} {x : LT} (h : lookI l ys z = some x) : z ∈ ys ∧ look l.at' z = some x := by
  unfold lookI at h
  split at h
  · exact ⟨‹_›, h⟩
  · cases h
theorem fstL_none {l : LTr} {ys : List Str} {j : Nat} (h : fstL l ys j = none) (z : Str) : lookI l ys z ≠ some (.fil j) := fun e => by
  obtain ⟨h1, h2⟩ := lookI_some e
  obtain ⟨f, hf⟩ := fstL_some h1 h2
  rw [h] at hf
  cases hf
theorem un_step {l : LTr} {ys : List Str} {i : Nat} {z : Str} {mk : Nat → Key} {t : Trd} (h : TrP l) (g : EntT l) (hp : ys.Perm (l.at'.map (·.1))) (hs : sortedS ys = true) (hz : ys[i]? = some z) (S : Sim (lookI l (ys.take i)) (fileL l) t mk) (tm : t.marks.length ≤ i) (hi : i < 64) :
    Fit2 t (memR z (rowL l ys z)) ∧ ∃ mk', Sim (lookI l (ys.take (i + 1))) (fileL l) (putM t (memR z (rowL l ys z))) mk' := by
  have hzm : z ∈ ys := List.mem_of_getElem? hz
  have nd : ys.Nodup := hp.nodup_iff.mpr g.nd
  have hin : ∀ z, z ∈ ys ↔ (look l.at' z).isSome = true := fun z => hp.mem_iff.trans look_mem.symm
  obtain ⟨x, hx⟩ := Option.isSome_iff_exists.mp ((hin z).mp hzm)
  have k := h.key _ _ hx
  have hsz := take_snoc hz
  have zn : z ∉ ys.take i := fun q => by
    have h2 : (ys.take (i + 1)).Nodup := nd.sublist (List.take_sublist _ _)
    rw [hsz, List.nodup_append] at h2
    exact h2.2.2 z q z (List.mem_singleton.mpr rfl) rfl
  have up : ∀ p ∈ aboveP z, ∃ a b, lookI l (ys.take i) p = some (.dir a b) := fun p hp' => by
    obtain ⟨a, b, e⟩ := h.par z x hx p hp'
    have pm : p ∈ ys := (hin p).mpr (by rw [e]; rfl)
    have pb := before (sorted_le hs) hz pm (k.1.upS hp') (fun e => k.1.notUp (e ▸ hp'))
    exact ⟨a, b, by unfold lookI; rw [if_pos pb, e]⟩
  have mn : (memR z (rowL l ys z)).nm = z := memR_nm
  have f0 : lookI l (ys.take i) z = none := by unfold lookI; rw [if_neg zn]
  have hf : ∀ w, lookI l (ys.take (i + 1)) w = if w = (memR z (rowL l ys z)).nm then some x else if w ∈ aboveP (memR z (rowL l ys z)).nm then some ((lookI l (ys.take i) w).getD (.dir 493 0)) else lookI l (ys.take i) w := fun w => by
    rw [mn]
    by_cases e : w = z
    · rw [if_pos e, e]
      unfold lookI
      rw [if_pos (by rw [hsz]; exact List.mem_append_right _ (List.mem_singleton.mpr rfl)), hx]
    · rw [if_neg e]
      have ei : lookI l (ys.take (i + 1)) w = lookI l (ys.take i) w := by
        unfold lookI
        by_cases q : w ∈ ys.take i
        · rw [if_pos q, if_pos (by rw [hsz]; exact List.mem_append_left _ q)]
        · rw [if_neg q, if_neg (fun q2 => by rw [hsz] at q2; exact (List.mem_append.mp q2).elim q fun q3 => e (List.mem_singleton.mp q3))]
      rw [ei]
      by_cases u : w ∈ aboveP z
      · rw [if_pos u]
        obtain ⟨a, b, e2⟩ := up w u
        rw [e2]
        rfl
      · rw [if_neg u]
  have kz : kindA t.things z = "" := by unfold kindA; rw [S.th, f0]; rfl
  have kp : ∀ p ∈ aboveP z, kindA t.things p = "directory" := fun p hp' => by
    obtain ⟨a, b, e⟩ := up p hp'
    unfold kindA
    rw [S.th, e]
    rfl
  have both : ((memR z (rowL l ys z)).isLnk = true → kindA t.things (memR z (rowL l ys z)).tgt = "file" ∧ (look t.marks (memR z (rowL l ys z)).tgt).isSome = true) ∧
      (((memR z (rowL l ys z)).isLnk = true ∧ lookI l (ys.take i) (memR z (rowL l ys z)).tgt = some x ∧ ∃ j, x = .fil j) ∨ (∃ y, (memR z (rowL l ys z)).thg = some y ∧ ¬ y.kind = "file" ∧ x.thg (fileL l) = y ∧ ∀ j, x ≠ .fil j) ∨ (∃ y j, (memR z (rowL l ys z)).thg = some y ∧ y.kind = "file" ∧ x = .fil j ∧ fileL l j = y ∧ ∀ z, lookI l (ys.take i) z ≠ some (.fil j))) := by
    unfold rowL
    rw [hx]
    cases x with
    | dir a b => exact ⟨(fun e => by cases e), .inr (.inl ⟨_, rfl, kind_dirN, rfl, (fun j e => by cases e)⟩)⟩
    | sym s a b => exact ⟨(fun e => by cases e), .inr (.inl ⟨_, rfl, kind_symN, rfl, (fun j e => by cases e)⟩)⟩
    | fil j =>
      dsimp only
      cases e0 : fstL l (ys.take i) j with
      | some f =>
        have fi := fstL_in e0
        have ff : fstL l ys j = some f := fstL_pre e0
        have fz : ¬ f = z := fun e => zn (e ▸ fi.1)
        have fl : lookI l (ys.take i) f = some (.fil j) := by unfold lookI; rw [if_pos fi.1, fi.2]
        rw [ff, if_neg (fun e => fz (Option.some.inj e))]
        refine ⟨fun _ => ⟨?_, ?_⟩, .inl ⟨rfl, fl, j, rfl⟩⟩
        · show kindA t.things f = "file"
          unfold kindA
          rw [S.th, fl]
          exact S.gk _ _ fl
        · show (look t.marks f).isSome = true
          rw [S.mks, fl]
          rfl
      | none =>
        have ff : fstL l ys j = some z := by
          refine fstL_pre (i := i + 1) ?_
          rw [hsz, fstL_snoc, hx, e0]
          dsimp only
          rw [if_pos rfl]
          rfl
        have hj := g.ix _ _ hx
        have hk := (fileL_ok h hj).1
        rw [ff, if_pos rfl]
        have hfl : fileL l j = .file (byteArr (l.files[j]).ns) (l.files[j]).m (l.files[j]).t := by unfold fileL; rw [List.getElem?_eq_getElem hj]
        refine ⟨(fun e => by rw [hfl] at e; cases e), .inr (.inr ⟨fileL l j, j, ?_, hk, rfl, rfl, fstL_none e0⟩)⟩
        rw [hfl]
        show some (Thg.file (byteArr (Bt.nums _)) _ _) = _
        rw [byteArr_nums]
  have len : t.things.length ≤ 1000 := by
    have h1 : (t.things.map (·.1)).Perm (ys.take i) := by
      refine keys_perm S.nd (nd.sublist (List.take_sublist _ _)) fun p => ?_
      rw [S.th]
      unfold lookI
      by_cases q : p ∈ ys.take i
      · rw [if_pos q]
        obtain ⟨y, hy⟩ := Option.isSome_iff_exists.mp ((hin p).mp (List.mem_of_mem_take q))
        rw [hy]
        exact ⟨fun _ => q, fun _ => rfl⟩
      · rw [if_neg q]
        exact ⟨(fun e => by cases e), fun e => absurd e q⟩
    have h2 := h1.length_eq
    rw [List.length_map, List.length_take] at h2
    omega
  refine ⟨⟨⟨by rw [mn]; exact k.1.path, fun p hp' => .inr (kp p (mn ▸ hp')), ?_⟩, memR_ok h g hp hzm, fun e => (both.1 e).2, len, by omega⟩, S.step hf (fun p hp' => .inr (up p (mn ▸ hp'))) (fun _ _ _ => rfl) both.2⟩
  unfold refP
  rw [mn, kz]
  by_cases hd : (memR z (rowL l ys z)).isDir = true
  · rw [if_pos hd, if_neg (by decide +kernel)]
  · rw [if_neg hd, if_neg (by decide +kernel)]
    cases hl : (memR z (rowL l ys z)).isLnk with
    | false => rw [Bool.false_and, if_neg (by decide)]
    | true => rw [(both.1 hl).1, if_neg (by decide +kernel)]
theorem memL_fold {l : LTr} {ys : List Str} (h : TrP l) (g : EntT l) (hp : ys.Perm (l.at'.map (·.1))) (hs : sortedS ys = true) : ∀ i, i ≤ ys.length → (∃ mk, Sim (lookI l (ys.take i)) (fileL l) (putAll ⟨[], [], 0⟩ ((memL (entL l ys)).take i)) mk) ∧ (putAll ⟨[], [], 0⟩ ((memL (entL l ys)).take i)).marks.length ≤ i
  | 0, _ => ⟨⟨fun _ => Sum.inl 0, (show Sim (fun _ => none) (fileL l) ⟨[], [], 0⟩ _ from Sim.nil)⟩, Nat.le_refl _⟩
  | i + 1, hi => by
    obtain ⟨⟨mk, S⟩, tm⟩ := memL_fold h g hp hs i (by omega)
    have l64 : ys.length < 64 := by
      have h1 := hp.length_eq
      rw [List.length_map] at h1
      have := g.few
      omega
    have hz : ys[i]? = some ys[i] := List.getElem?_eq_getElem (by omega)
    have hm : (memL (entL l ys))[i]? = some (memR ys[i] (rowL l ys ys[i])) := by
      unfold memL entL
      rw [List.map_map, List.getElem?_map, hz]
      rfl
    have st := un_step h g hp hs hz S tm (by omega)
    rw [take_snoc hm, putAll_snoc]
    exact ⟨st.2, Nat.le_trans putM_mlen (by omega)⟩
/-- all of them fit, and the house has the entries again -/
theorem memL_house {l : LTr} {ys : List Str} (h : TrP l) (g : EntT l) (hp : ys.Perm (l.at'.map (·.1))) (hs : sortedS ys = true) : FitAll ⟨[], [], 0⟩ (memL (entL l ys)) ∧ (putAll ⟨[], [], 0⟩ (memL (entL l ys))).things.length < 64 ∧
    ∀ ys', ys'.Perm ((putAll ⟨[], [], 0⟩ (memL (entL l ys))).things.map (·.1)) → sortedS ys' = true → (hsOf (putAll ⟨[], [], 0⟩ (memL (entL l ys))).things (putAll ⟨[], [], 0⟩ (memL (entL l ys))).marks ys').rows = entL l ys := by
  have l64 : ys.length < 64 := by
    have h1 := hp.length_eq
    rw [List.length_map] at h1
    have := g.few
    omega
  have hin : ∀ z, z ∈ ys ↔ (look l.at' z).isSome = true := fun z => hp.mem_iff.trans look_mem.symm
  have fo := memL_fold h g hp hs
  obtain ⟨⟨mk, S⟩, _⟩ := fo ys.length (Nat.le_refl _)
  rw [List.take_length, List.take_of_length_le (by rw [memL_len]; exact Nat.le_refl _)] at S
  have S : Sim (look l.at') (fileL l) (putAll ⟨[], [], 0⟩ (memL (entL l ys))) mk := by
    have e : lookI l ys = look l.at' := by
      funext z
      unfold lookI
      by_cases q : z ∈ ys
      · rw [if_pos q]
      · rw [if_neg q]
        cases e : look l.at' z with
        | none => rfl
        | some y => exact absurd ((hin z).mpr (by rw [e]; rfl)) q
    rw [e] at S
    exact S
  have kp := S.keys hp g.nd
  refine ⟨fitAll_of fun i m hm => ?_, ?_, fun ys' hp' hs' => ?_⟩
  · obtain ⟨z, hz, rfl⟩ := memL_at hm
    obtain ⟨hlt, _⟩ := List.getElem?_eq_some_iff.mp hz
    obtain ⟨⟨mk, S⟩, tm⟩ := fo i (by omega)
    exact (un_step h g hp hs hz S tm (by omega)).1
  · have h2 := kp.length_eq
    rw [List.length_map] at h2
    omega
  · have e : ys' = ys := sorted_one (sorted_le hs') (sorted_le hs) (hp'.trans kp)
    rw [e]
    exact S.rows kp.symm
/-! ### == and != of an object by its class's own __eq__, and `in` where the object stands on the right -/
namespace EqX
open PySem PySem.W PyProof.Rows
theorem slot_ne : Slot "object" "__ne__" "object.__ne__" := F.cmp_object.ne
section
variable {prog : Program} {w : World} {A : Around} {E : Value → Shared → Prop} {s : Shared} {K : PySem.W.Frag} {x C f : Addr} {ox : Obj} {od : Option Obj} {b : Value}
theorem objNe_own (hu : A.units < cLine) (X : K.In s.heap) (I : InstAt s.heap x ox C od) (hs : findIn K (.ref C) "__eq__" = some (some (.ref f))) (hf : isFn K (.ref f) = true) {Q : Fin → Shared → Prop}
    (h : wpAny (model prog w) A (call (.ref f) [.ref x, b]) (fun v s' => ∃ r, v = .bool r ∧ Q (.done (.ret (.bool (!r)))) s') E s) :
    wpAny (model prog w) A (Builtin.«object.__ne__» ⟨[.ref x, b], []⟩) Q E s := by
  obtain ⟨h0, g, d, t, os⟩ := s
  unfold Builtin.«object.__ne__»
  repeat (first
    | with_reducible refine wpAny_cRoomFor hu ?_
    | (refine wpAny_bind (m := callSpecialIfBound? (.ref x) (Str.ofString "__eq__") [b])
        (ifBound_K X I hs hf (wpAny_mono h (fun r s' hr => by
          obtain ⟨c, rfl, hq⟩ := hr
          repeat (first | exact hq | exact wpAny_pure hq | exact wpAny_truthy_bool hq | (refine wpAny_bind (m := truthy (.bool _)) (wpAny_truthy_bool ?_)) | wp_step)) fun _ _ e => e)))
    | wp_step)
theorem ifBound_B {id : String} {name : Str} {T : String} {args : List Value} {Q : Option Value → Shared → Prop} (X : K.In s.heap) (I : InstAt s.heap x ox C od) (hs : findIn K (.ref C) name = some (some (.builtin id))) (S : Slot T name id)
    (h : wpAny (model prog w) A (call (.builtin id) (.ref x :: args)) (fun v => Q (some v)) E s) : wpAny (model prog w) A (callSpecialIfBound? (.ref x) name args) Q E s := by
  simp only [callSpecialIfBound?, bindSpecialIfBound?]
  refine wpAny_holding (wpAny_bind (wpAny_bind (wpAny_bind (I.type.here ((looks_findIn X hs).here ?_)))))
  simp only [S.bind]
  refine wpAny_bind (wpAny_askSetting (wpAny_ite ?_))
  have fin : wpAny (model prog w) A (call (.builtin id) ([.ref x] ++ args) >>= fun v => pure (some v)) Q E s := wpAny_bind (wpAny_mono h (fun v s' h' => wpAny_pure h') fun _ _ h' => h')
  split
  · exact wpAny_bind (wpAny_pure (wpAny_pure fin))
  · exact wpAny_tryCatch (wpAny_bind (wpAny_pure (wpAny_pure fin)))
theorem ne_K {Q : Value → Shared → Prop} {tb : Value} (hu : A.units + 1 < cLine) (X : K.In s.heap) (I : InstAt s.heap x ox C od) (hb : Looks (model prog w) s.heap (typeOf b) tb) (hn : notFirst K C tb = true)
    (hs : findIn K (.ref C) "__eq__" = some (some (.ref f))) (hf : isFn K (.ref f) = true) (hs2 : findIn K (.ref C) "__ne__" = some (some (.builtin "object.__ne__"))) (ho : subIn K (.ref C) (.type "object") = some true)
    (h : wpAny (model prog w) A.in1 (call (.ref f) [.ref x, b]) (fun v s' => ∃ r, v = .bool r ∧ Q (.bool (!r)) s') E s) : wpAny (model prog w) A (richCompare .NotEq (.ref x) b) Q E s := by
  have one : wpAny (model prog w) A (tryCompare (.ref x) (cmpInfo .NotEq).2.1 b) (fun r s' => ∃ v, r = some v ∧ Q v s') E s := by
    unfold tryCompare
    refine wpAny_bind (ifBound_B X I hs2 slot_ne (wpAny_call (codeAny_call_builtin slot_ne.plain F.cmpEntry_ne (check_slot F.cmpKind_ne F.cmpSplit_ne ?_ (F.cmpArgs_ne _ _) (objNe_own (A := A.in1) hu X I hs hf (wpAny_mono h (fun v s' hv => ?_) fun _ _ e => e))))))
    · exact I.type.andThen (looks_subIn X ho)
    · obtain ⟨r, rfl, hq⟩ := hv
      exact ⟨r, rfl, wpAny_pure ⟨_, rfl, hq⟩⟩
  unfold richCompare
  simp only [oneThing_ref]
  refine wpAny_holding (wpAny_bind (wpAny_cRoomFor (Nat.lt_of_succ_lt hu) ?_))
  refine wpAny_bind (I.type.here (wpAny_bind (hb.here ?_)))
  split
  · rename_i q
    have e : subIn K tb (.ref C) = some false := by
      rcases Bool.or_eq_true_iff.mp hn with e | e
      · rw [beq_iff_eq.mp e] at q; simp at q
      · exact beq_iff_eq.mp e
    refine wpAny_bind ((looks_subIn X e).here ?_)
    simp only [Bool.false_eq_true, if_false]
    refine wpAny_bind (wpAny_mono one (fun r s' z => ?_) fun _ _ e => e)
    obtain ⟨v, rfl, hq⟩ := z
    exact wpAny_pure hq
  · refine wpAny_bind (wpAny_pure ?_)
    simp only [Bool.false_eq_true, if_false]
    refine wpAny_bind (wpAny_mono one (fun r s' z => ?_) fun _ _ e => e)
    obtain ⟨v, rfl, hq⟩ := z
    exact wpAny_pure hq
end
end EqX
abbrev s_House___eq__ : Stmt := inClass (topS 48) 1
abbrev N_House___eq__ : List Str := ["self", "other"]
theorem sc_House___eq__ : FnScope N_House___eq__ ["self", "other"] (defScope s_House___eq__) := ⟨rfl, rfl, rfl, by decide +kernel, rfl, by decide +kernel, by decide +kernel⟩
/-! ### entries and houses compared, both answers -/
theorem all_eq {α : Type} [DecidableEq α] (xs ys : List α) : ((List.range (min xs.length ys.length)).all (fun j => decide (xs[j]? = ys[j]?)) && xs.length == ys.length) = decide (xs = ys) := by
  rw [Bool.eq_iff_iff]
  simp only [Bool.and_eq_true, List.all_eq_true, List.mem_range, decide_eq_true_eq, beq_iff_eq]
  constructor
  · rintro ⟨h1, h2⟩
    apply List.ext_getElem?
    intro j
    by_cases hj : j < xs.length
    · exact h1 j (by omega)
    · rw [List.getElem?_eq_none (by omega), List.getElem?_eq_none (by omega)]
  · rintro rfl
    exact ⟨fun _ _ => rfl, rfl⟩
noncomputable instance : DecidableEq Thg := fun a b => Classical.propDecidable (a = b)
theorem fb_eqV : ∀ {x y : V}, fbV x = true → fbV y = true → eqFB x y = decide (x = y)
  | .int i, .int j, _, _ => by show (i == j) = _; rw [Bool.eq_iff_iff]; simp
  | .int i, .str j, _, _ => by rw [decide_eq_false (fun h => by cases h)]; rfl
  | .int i, .byt j, _, _ => by rw [decide_eq_false (fun h => by cases h)]; rfl
  | .str i, .int j, _, _ => by rw [decide_eq_false (fun h => by cases h)]; rfl
  | .str i, .str j, _, _ => by show (i == j) = _; rw [Bool.eq_iff_iff]; simp
  | .str i, .byt j, _, _ => by rw [decide_eq_false (fun h => by cases h)]; rfl
  | .byt i, .int j, _, _ => by rw [decide_eq_false (fun h => by cases h)]; rfl
  | .byt i, .str j, _, _ => by rw [decide_eq_false (fun h => by cases h)]; rfl
  | .byt i, .byt j, _, _ => by show decide (i = j) = _; rw [Bool.eq_iff_iff]; simp
theorem Thg.vals_fb (x : Thg) : ∀ v ∈ x.vals, fbV v = true := by
  intro v hv
  cases x with
  | dir m t => simp only [Thg.vals, List.mem_cons, List.not_mem_nil, or_false] at hv; rcases hv with e | e | e <;> subst e <;> rfl
  | file y m t => simp only [Thg.vals, List.mem_cons, List.not_mem_nil, or_false] at hv; rcases hv with e | e | e | e <;> subst e <;> rfl
  | sym g m t => simp only [Thg.vals, List.mem_cons, List.not_mem_nil, or_false] at hv; rcases hv with e | e | e | e <;> subst e <;> rfl
  | lnk f => simp only [Thg.vals, List.mem_cons, List.not_mem_nil, or_false] at hv; rcases hv with e | e <;> subst e <;> rfl
theorem Thg.vals_inj {x y : Thg} (h : x.vals = y.vals) : x = y := by
  cases x <;> cases y <;> simp only [Thg.vals, List.cons.injEq, V.int.injEq, V.str.injEq, V.byt.injEq, true_and, and_true, reduceCtorEq, and_false, false_and] at h <;> first | (obtain ⟨h1, h2, h3⟩ := h; subst h1 h2 h3; rfl) | (obtain ⟨h1, h2⟩ := h; subst h1 h2; rfl) | (subst h; rfl)
theorem th_ans {K : PySem.W.Frag} {H : Hp} {v u : V} {x y : Thg} (h : Thg.At K H v x) (g : Thg.At K H u y) : ATup K AFlat v u (decide (x = y)) H := by
  obtain ⟨a, rfl, ha⟩ := h
  obtain ⟨b, rfl, hb⟩ := g
  refine ⟨a, b, x.vals, y.vals, fun j => decide (x.vals[j]? = y.vals[j]?), rfl, rfl, ha, hb, fun i p q hp hq => ?_, ?_⟩
  · have f1 := x.vals_fb p (List.mem_of_getElem? hp)
    have f2 := y.vals_fb q (List.mem_of_getElem? hq)
    refine ⟨f1, f2, ?_⟩
    show decide (x.vals[i]? = y.vals[i]?) = _
    rw [fb_eqV f1 f2, hp, hq]
    exact decide_eq_decide.mpr ⟨Option.some.inj, congrArg some⟩
  · unfold allE
    rw [all_eq]
    exact decide_eq_decide.mpr ⟨fun e => e ▸ rfl, Thg.vals_inj⟩
def ARow (K : PySem.W.Frag) : EqvA := ATup K (AOr AFlat (ATup K AFlat))
theorem eqA_row {K : PySem.W.Frag} : EqA K 2 (ARow K) := eqA_tup (eqA_flat.or (eqA_tup eqA_flat) (Nat.zero_le 1))
theorem row_ans {K : PySem.W.Frag} {H : Hp} {v u : V} {q r : Str × Thg} (h : EntAt K H v q) (g : EntAt K H u r) : ARow K v u (decide (q = r)) H := by
  obtain ⟨e, t, rfl, h1, h2⟩ := h
  obtain ⟨e2, t2, rfl, g1, g2⟩ := g
  refine ⟨e, e2, _, _, fun j => if j = 0 then decide (q.1 = r.1) else decide (q.2 = r.2), rfl, rfl, h1, g1, fun i x y hx hy => ?_, ?_⟩
  · match i with
    | 0 =>
      cases Option.some.inj hx
      cases Option.some.inj hy
      refine .inl ⟨rfl, rfl, ?_⟩
      show decide (q.1 = r.1) = (q.1 == r.1)
      rw [Bool.eq_iff_iff]
      simp
    | 1 =>
      cases Option.some.inj hx
      cases Option.some.inj hy
      exact .inr (th_ans h2 g2)
    | i + 2 => cases hx
  · show _ = ((List.range 2).all _ && true)
    rw [Bool.eq_iff_iff]
    simp [List.range_succ, Prod.ext_iff]
theorem rows_ans {K : PySem.W.Frag} {H : Hp} {xs ys : List V} {l m : List (Str × Thg)} (h : Paired (EntAt K H) xs l) (g : Paired (EntAt K H) ys m) : (∀ (i : Nat) x y, xs[i]? = some x → ys[i]? = some y → ARow K x y (decide (l[i]? = m[i]?)) H) ∧ allE xs.length ys.length (fun i => decide (l[i]? = m[i]?)) = decide (l = m) := by
  refine ⟨fun i x y hx hy => ?_, ?_⟩
  · obtain ⟨q, hq, h1⟩ := paired_at h hx
    obtain ⟨r, hr, h2⟩ := paired_at g hy
    rw [hq, hr, show decide (some q = some r) = decide (q = r) from decide_eq_decide.mpr ⟨Option.some.inj, congrArg some⟩]
    exact row_ans h1 h2
  · rw [Paired.length h, Paired.length g]
    exact all_eq l m
/-! ### own == and != -/
structure EqF (K : PySem.W.Frag) (C f : Addr) : Prop where
  eq : PySem.W.findIn K (.ref C) "__eq__" = some (some (.ref f))
  fn : PySem.W.isFn K (.ref f) = true
  ne : PySem.W.findIn K (.ref C) "__ne__" = some (some (.builtin "object.__ne__"))
  ob : PySem.W.subIn K (.ref C) (.type "object") = some true
def spEqM (K : PySem.W.Frag) (C : Addr) (R : Addr → Addr → Hp → Bool → Prop) : Sp := fun vs H Q _ => ∃ a u dx fs, vs = [.ref a, u] ∧ H a = some (.ins C dx fs) ∧
  ((∃ t, TyX K H u t ∧ PySem.W.kitOne K t (.ref C) = some false ∧ ∀ H', Same H H' → Q (.bl false) H') ∨ ∃ b r, u = .ref b ∧ R a b H r ∧ ∀ H', Same H H' → Q (.bl r) H')
structure EqT (P : Program) (w : World) (K : PySem.W.Frag) (mg : Str → Option Value) (base : Heap) (k : Nat) (C : Addr) (R : Addr → Addr → Hp → Bool → Prop) : Prop where
  ex : ∃ f, EqF K C f ∧ FnR P w K mg base CX0 k f (spEqM K C R)
/-- an instance with an own == beside any value -/
def rOwnV (P : Program) (w : World) (K : PySem.W.Frag) (mg : Str → Option Value) (base : Heap) (k : Nat) (neg : Bool → Bool) : R2 := fun x y H Q => ∃ C R a dx fs t r, EqT P w K mg base k C R ∧ x = .ref a ∧ H a = some (.ins C dx fs) ∧ TyX K H y t ∧
  PySem.W.notFirst K C t = true ∧ ((PySem.W.kitOne K t (.ref C) = some false ∧ r = false) ∨ ∃ b, y = .ref b ∧ R a b H r) ∧ ∀ H', Same H H' → Q (.bl (neg r)) H'
section
variable {X : Cx} {k : Nat}
theorem spEqV_of {K : PySem.W.Frag} {C a dx : Addr} {fs : List (Str × V)} {y : V} {t : Value} {R : Addr → Addr → Hp → Bool → Prop} {H : Hp} {r : Bool} {Q : VK} {E : XK} (ha : H a = some (.ins C dx fs)) (ht : TyX K H y t) (h : (PySem.W.kitOne K t (.ref C) = some false ∧ r = false) ∨ ∃ b, y = .ref b ∧ R a b H r) (q : ∀ H', Same H H' → Q (.bl r) H') : spEqM K C R [.ref a, y] H Q E := by
  rcases h with ⟨k, rfl⟩ | ⟨b, rfl, h⟩
  · exact ⟨a, _, dx, fs, rfl, ha, .inl ⟨_, ht, k, q⟩⟩
  · exact ⟨a, _, dx, fs, rfl, ha, .inr ⟨b, r, rfl, h, q⟩⟩
theorem op_ownEqV (hr : Room k X.A) : OpR X (compareOp .Eq) (rOwnV X.prog X.w X.K X.mg X.base k id) := by
  intro pins s σ H x y v u Q I rx ry h
  obtain ⟨C, R, a, dx, fs, t, r, ⟨f, F, Fn⟩, rfl, ha, ht, hn, hs, q⟩ := h
  cases (show v = Value.ref a from rx)
  obtain ⟨mA, O, _⟩ := ins_get I.hok ha
  obtain ⟨od, J, _⟩ := O.look
  obtain ⟨m, hF⟩ := I.fr
  obtain ⟨P, Z, hP, _⟩ := kit_of I ry ht
  show wpAny _ _ (richCompare .Eq (.ref a) u) _ _ _
  refine PySem.W.cmp_K (op := .Eq) (tb := t) hr.units0 hF I.ok.mod.kin J (Z.ty _ _ I.kIn hP) hn F.eq F.fn ?_
  refine wpAny_mono (wpAny_call (run_fnR (us := [.ref a, u]) (vs := [.ref a, y]) (Q := fun z H' => z = .bl r ∧ Same H H') (E := E0) Fn hr pass0 I (.cons rfl (.cons ry .nil)) (spEqV_of ha ht hs fun H' e => ⟨rfl, e⟩))) (fun w s' z => ?_) fun _ _ x => x
  obtain ⟨z', H', I', rz, rfl, e⟩ := z
  cases rz
  exact ⟨.bl r, _, I', rfl, q _ e⟩
theorem op_ownNeV (hr : Room (k + 1) X.A) (hu : X.A.units + 1 < cLine) : OpR X (compareOp .NotEq) (rOwnV X.prog X.w X.K X.mg X.base k not) := by
  intro pins s σ H x y v u Q I rx ry h
  obtain ⟨C, R, a, dx, fs, t, r, ⟨f, F, Fn⟩, rfl, ha, ht, hn, hs, q⟩ := h
  cases (show v = Value.ref a from rx)
  obtain ⟨mA, O, _⟩ := ins_get I.hok ha
  obtain ⟨od, J, _⟩ := O.look
  obtain ⟨P, Z, hP, _⟩ := kit_of I ry ht
  show wpAny _ _ (richCompare .NotEq (.ref a) u) _ _ _
  refine EqX.ne_K (tb := t) hu I.kIn J (Z.ty _ _ I.kIn hP) hn F.eq F.fn F.ne F.ob ?_
  refine wpAny_mono (wpAny_call (SlX.run_at (us := [.ref a, u]) (ws := [.ref a, y]) (Q := fun z H' => z = .bl r ∧ Same H H') (E := E0) Fn hr.in1 I.env0.in1 pass0 I (.cons rfl (.cons ry .nil)) (spEqV_of ha ht hs fun H' e => ⟨rfl, e⟩))) (fun w s' z => ?_) fun _ _ x => x
  obtain ⟨z', H', I', rz, rfl, e⟩ := z
  cases rz
  exact ⟨_, rfl, .bl (!r), _, I', rfl, q _ e⟩
end
theorem op_ownEqVK {X : Cx} {k : Nat} {P : Program} {w : World} {mg : Str → Option Value} {base : Heap} (K : PySem.W.Frag) (hr : Room k X.A) (h1 : X.prog = P := by rfl) (h2 : X.w = w := by rfl) (h3 : X.K = K := by rfl) (h4 : X.mg = mg := by rfl) (h5 : X.base = base := by rfl) : OpR X (compareOp .Eq) (rOwnV P w K mg base k id) := by
  subst h1 h2 h3 h4 h5; exact op_ownEqV hr
theorem op_ownNeVK {X : Cx} {k : Nat} {P : Program} {w : World} {mg : Str → Option Value} {base : Heap} (K : PySem.W.Frag) (hr : Room (k + 1) X.A) (hu : X.A.units + 1 < cLine) (h1 : X.prog = P := by rfl) (h2 : X.w = w := by rfl) (h3 : X.K = K := by rfl) (h4 : X.mg = mg := by rfl) (h5 : X.base = base := by rfl) : OpR X (compareOp .NotEq) (rOwnV P w K mg base k not) := by
  subst h1 h2 h3 h4 h5; exact op_ownNeV hr hu
/-- its instances are told by their class -/
structure InsF (K : PySem.W.Frag) (C : Addr) : Prop where
  ha : PySem.W.findIn K (.ref C) "__class__" = some (some (.builtin "object.__class__"))
  hn : PySem.W.specialIn K (.builtin "object.__class__") "__get__" = some (some (.builtin "getset_descriptor.__get__"))
  htk : PySem.W.takesIn K (.builtin "object.__class__") = some true
  hm : PySem.W.mroIn K C (.type "object") = some true
theorem kit_self {K : PySem.W.Frag} {C : Addr} : PySem.W.kitOne K (.ref C) (.ref C) = some true := by
  unfold PySem.W.kitOne
  rw [if_pos (beq_self_eq_true _)]
def RHsB (K : PySem.W.Frag) (CH : Addr) : Addr → Addr → Hp → Bool → Prop := fun a b H r => ∃ h g : Hs, HsAt K CH H a h ∧ HsAt K CH H b g ∧ r = decide (h.rows = g.rows)
section
variable {P : Program} {w : World} {K : PySem.W.Frag} {mg : Str → Option Value} {base : Heap}
theorem ok_eqHouse {f CH : Addr} {fd : FuncData} {k : Nat} (F : Fun K "__eq__" "House.__eq__" s_House___eq__ f fd) (hc : HsC K CH) (hi : InsF K CH) (m1 : mg "isinstance" = none) (m_House : mg "House" = some (.ref CH)) : FnOk P w K mg base CX0 (k + 4) f fd ["self", "other"] (spEqM K CH (RHsB K CH)) := by
  refine F.ok sc_House___eq__ (fun vs H Q E h => ?_) (fun cdv A outer s H vs Q E hr h => ?_)
  · obtain ⟨a, u, _, _, rfl, _⟩ := h
    rfl
  · obtain ⟨a, u, dx0, fs0, rfl, _, h⟩ := h
    have hu := hu_of hr
    have hu64 := hr.units
    have nd := sc_House___eq__.nd
    refine ⟨_, (pss_one (ps_ret (pe_and (pe_callB (call_isiK1 K) (by rfl) (by assumption) (by decide +kernel) (pa_cons (pv 1) (pa_cons (pe_glob (v := .ref CH) (by rfl) m_House (by first | exact rfl | exact ⟨_, rfl⟩)) pa_nil))) (pe_one (pe_cmpR (op_eqAT K eqA_row (Nat.lt_of_le_of_lt (Nat.add_le_add_left (by decide) _) hr.units)) (pe_fldN K (pv 0)) (pe_fldN K (pv 1)) (nomark _)))))), ?_⟩
    rcases h with ⟨t0, ht, hk, q⟩ | ⟨d, r, rfl, ⟨h, g, hh, hg, rfl⟩, q⟩
    · walk_at "rd"
      refine ⟨u, .ref CH, t0, .ref CH, false, rfl, .own _, ht, hk, ?_⟩
      walk_at "rd"
      exact q _ (Same.refl _)
    · obtain ⟨dx, R, T, F1, vs, ps, qs, gH⟩ := hh
      obtain ⟨dx2, R2, T2, F2, vs2, ps2, qs2, gG⟩ := hg
      walk_at "rd"
      refine ⟨.ref d, .ref CH, .ref CH, .ref CH, true, rfl, .own _, .base (.ins gG.ob hc.cl hi.ha hi.hn hi.htk hi.hm), kit_self, ?_⟩
      walk_at "rd"
      refine r_fldE gH.ob hc.cl hc.rows rfl ?_
      walk_at "rd"
      refine r_fldE gG.ob hc.cl hc.rows rfl ?_
      walk_at "rd"
      obtain ⟨d1, d2⟩ := rows_ans gH.pr gG.pr
      refine ⟨R, R2, vs, vs2, _, rfl, rfl, SqT.of gH.r, SqT.of gG.r, d1, ?_⟩
      rw [d2]
      exact q _ (Same.refl _)
end
/-! ### a tree near to another one, pure -/
theorem zz_tl : 47 ∉ TL.tl ("zz" : Str) ∧ 122 ∈ TL.tl ("zz" : Str) := by decide +kernel
theorem zy_tl : 47 ∉ TL.tl ("zy" : Str) ∧ 122 ∈ TL.tl ("zy" : Str) := by decide +kernel
theorem path_one {n : Str} (h : ptB n = true) (h1 : 1 ≤ n.length) (h2 : n.length ≤ 250) : PathD n := ⟨n, [], rfl, (fun y hy => by rw [List.mem_singleton.mp hy]; exact h), h1, h2, Nat.zero_le _, name_of h1 h2 (ptB_3 h).1, .inl rfl⟩
theorem path_zz : PathD "zz" := path_one (by decide +kernel) (by decide +kernel) (by decide +kernel)
theorem path_zy : PathD "zy" := path_one (by decide +kernel) (by decide +kernel) (by decide +kernel)
theorem above_one {n : Str} (h : 47 ∉ TL.tl n) : aboveP n = [] := by
  have e := above_jn (ps := [n]) (by simp) (fun y hy => by rw [List.mem_singleton.mp hy]; exact h)
  exact e
/-- all that the law asks of a tree -/
structure TrG (l : LTr) (a b : Nat) : Prop where
  p : TrP l
  few : l.at'.length ≤ a
  nd : (l.at'.map (·.1)).Nodup
  ix : ∀ z i, look l.at' z = some (.fil i) → i < l.files.length
  byt : ∀ x ∈ l.files, x.ns.all inByte = true ∧ x.ns.length ≤ b
  ff : l.files.length ≤ 100
theorem TrG.ent {l : LTr} {a b : Nat} (h : TrG l a b) (ha : a < 64) (hb : b ≤ 70000) : EntT l := ⟨by have := h.few; omega, h.nd, h.ix, fun x hx => ⟨(h.byt x hx).1, Nat.le_trans (h.byt x hx).2 hb⟩⟩
theorem TrG.mono {l : LTr} {a b a' b' : Nat} (h : TrG l a b) (ha : a ≤ a') (hb : b ≤ b') : TrG l a' b' := ⟨h.p, Nat.le_trans h.few ha, h.nd, h.ix, fun x hx => ⟨(h.byt x hx).1, Nat.le_trans (h.byt x hx).2 hb⟩, h.ff⟩
/-- something else at a path that stands, or that is above no other -/
theorem TrG.put {l : LTr} {a b : Nat} {n : Str} {x : LT} {fs : List LFl} (h : TrG l a b) (hn : PathD n) (hx : x.Ok) (up : ∀ p ∈ aboveP n, ∃ m t, look l.at' p = some (.dir m t)) (hd : (∃ m t, x = .dir m t) ∨ ∀ z y, look l.at' z = some y → n ∉ aboveP z)
    (hf : ∀ y ∈ fs, (y.ns.length ≤ 4096 ∧ 0 ≤ y.m ∧ y.m ≤ 4095 ∧ 0 ≤ y.t ∧ y.t ≤ 8589934591) ∧ y.ns.all inByte = true ∧ y.ns.length ≤ b) (hl : l.files.length ≤ fs.length) (hff : fs.length ≤ 100) (hi : ∀ i, x = .fil i → i < fs.length) : TrG ⟨putA l.at' n x, fs⟩ (a + 1) b := by
  refine ⟨⟨fun z y hz => ?_, fun z y hz p hp => ?_, fun y hy => (hf y hy).1⟩, Nat.le_trans put_len (Nat.add_le_add_right h.few 1), put_nd h.nd, fun z i hz => ?_, fun y hy => (hf y hy).2, hff⟩
  · have hz : look (putA l.at' n x) z = some y := hz
    rw [look_put] at hz
    split at hz
    · rename_i e
      cases hz
      exact ⟨e ▸ hn, hx⟩
    · exact h.p.key _ _ hz
  · have hz : look (putA l.at' n x) z = some y := hz
    show ∃ m t, look (putA l.at' n x) p = some (.dir m t)
    rw [look_put] at hz
    have old : ∃ m t, look l.at' p = some (.dir m t) := by
      split at hz
      · rename_i e
        exact up p (e ▸ hp)
      · exact h.p.par _ _ hz p hp
    rw [look_put]
    split
    · rename_i e
      rcases hd with ⟨m, t, rfl⟩ | hd
      · exact ⟨m, t, rfl⟩
      · split at hz
        · rename_i e2
          rw [e, e2] at hp
          exact absurd hp hn.notUp
        · exact absurd (e ▸ hp) (hd _ _ hz)
    · exact old
  · have hz : look (putA l.at' n x) z = some (.fil i) := hz
    rw [look_put] at hz
    split at hz
    · exact hi i (Option.some.inj hz)
    · exact Nat.lt_of_lt_of_le (h.ix _ _ hz) hl
theorem TrG.put0 {l : LTr} {a b : Nat} {n : Str} {x : LT} {fs : List LFl} (h : TrG l a b) (hn : PathD n) (hx : x.Ok) (up : ∀ p ∈ aboveP n, ∃ m t, look l.at' p = some (.dir m t)) (hd : (∃ m t, x = .dir m t) ∨ ∀ z y, look l.at' z = some y → n ∉ aboveP z) (hl : fs = l.files) (hi : ∀ i, x = .fil i → i < l.files.length) : TrG ⟨putA l.at' n x, fs⟩ (a + 1) b := by
  subst hl
  exact h.put hn hx up hd (fun y hy => ⟨h.p.fok y hy, h.byt y hy⟩) (Nat.le_refl _) h.ff hi
/-- a path with a file or symlink is above no other -/
theorem TrG.leaf {l : LTr} {a b : Nat} {n : Str} {x : LT} (h : TrG l a b) (hx : look l.at' n = some x) (nd : ∀ m t, x ≠ .dir m t) : ∀ z y, look l.at' z = some y → n ∉ aboveP z := fun z y hz hp => by
  obtain ⟨m, t, e⟩ := h.p.par _ _ hz n hp
  rw [hx] at e
  exact nd m t (Option.some.inj e)
theorem TrG.dropN {l : LTr} {a b : Nat} {n : Str} {x : LT} (h : TrG l a b) (hx : look l.at' n = some x) (nd : ∀ m t, x ≠ .dir m t) : TrG ⟨dropA l.at' n, l.files⟩ a b := by
  refine ⟨⟨fun z y hz => ?_, fun z y hz p hp => ?_, h.p.fok⟩, Nat.le_trans drop_len h.few, h.nd.sublist ((List.filter_sublist ..).map _), fun z i hz => ?_, h.byt, h.ff⟩
  · have hz : look (dropA l.at' n) z = some y := hz
    rw [look_drop] at hz
    split at hz
    · cases hz
    · exact h.p.key _ _ hz
  · have hz : look (dropA l.at' n) z = some y := hz
    show ∃ m t, look (dropA l.at' n) p = some (.dir m t)
    rw [look_drop] at hz
    split at hz
    · cases hz
    · rw [look_drop, if_neg (fun (e : p = n) => h.leaf hx nd _ _ hz (by rw [← e]; exact hp))]
      exact h.p.par _ _ hz p hp
  · have hz : look (dropA l.at' n) z = some (.fil i) := hz
    rw [look_drop] at hz
    split at hz
    · cases hz
    · exact h.ix _ _ hz
theorem TrG.setF {l : LTr} {a b : Nat} {i : Nat} {x : LFl} (h : TrG l a b) (hx : (x.ns.length ≤ 4096 ∧ 0 ≤ x.m ∧ x.m ≤ 4095 ∧ 0 ≤ x.t ∧ x.t ≤ 8589934591) ∧ x.ns.all inByte = true ∧ x.ns.length ≤ b) : TrG ⟨l.at', l.files.set i x⟩ a b := by
  have all : ∀ y ∈ l.files.set i x, (y.ns.length ≤ 4096 ∧ 0 ≤ y.m ∧ y.m ≤ 4095 ∧ 0 ≤ y.t ∧ y.t ≤ 8589934591) ∧ y.ns.all inByte = true ∧ y.ns.length ≤ b := fun y hy => by
    rcases List.mem_or_eq_of_mem_set hy with hy | rfl
    · exact ⟨h.p.fok y hy, h.byt y hy⟩
    · exact hx
  exact ⟨⟨h.p.key, h.p.par, fun y hy => (all y hy).1⟩, h.few, h.nd, (fun z j hz => by show j < (l.files.set i x).length; rw [List.length_set]; exact h.ix _ _ hz), fun y hy => (all y hy).2, by show (l.files.set i x).length ≤ 100; rw [List.length_set]; exact h.ff⟩
/-! the drawn tree -/
structure Sml (l : LTr) : Prop where
  byt : ∀ x ∈ l.files, x.ns.length ≤ 4000
theorem cont_small {m : Mem} (h : m.Ok) (ht : m.Two) : (contL m).length ≤ 4000 := by
  cases m with
  | file n b t ns => exact Nat.le_trans (show ns.length ≤ 600 from ht) (by decide)
  | sparse n b t z sp =>
    obtain ⟨_, z0, z1, _, hso, hb⟩ := h
    obtain ⟨_, _, z2⟩ := ht
    have hl : (sp.foldl splI (List.replicate z.toNat 0)).length = (List.replicate z.toNat (0 : Int)).length := fold_len fun s hs => by
      have g := spansOk_all (Int.le_refl 0) hso (s.1, (s.2.length : Int)) (List.mem_map.mpr ⟨s, hs, rfl⟩)
      rw [List.length_replicate]
      have g3 : s.1 + (s.2.length : Int) ≤ z := g.2.2
      exact ⟨g.1, by omega⟩
    show (sp.foldl splI (List.replicate z.toNat 0)).length ≤ 4000
    rw [hl, List.length_replicate]
    omega
  | dir n b t => exact Nat.zero_le _
  | sym n b t g => exact Nat.zero_le _
  | lnk n b t g => exact Nat.zero_le _
theorem Sml.go {l : LTr} {m : Mem} (h : Sml l) (ho : m.Ok) (ht : m.Two) : Sml (goL l m) := by
  unfold goL
  split
  · have snoc : ∀ x : LFl, x.ns.length ≤ 4000 → ∀ y ∈ l.files ++ [x], y.ns.length ≤ 4000 := fun x hx y hy => (List.mem_append.mp hy).elim (h.byt y) fun e => by rw [List.mem_singleton.mp e]; exact hx
    cases m with
    | file n b t ns => exact ⟨snoc _ (cont_small ho ht)⟩
    | sparse n b t z sp => exact ⟨snoc _ (cont_small ho ht)⟩
    | dir n b t => exact ⟨h.byt⟩
    | sym n b t g => exact ⟨h.byt⟩
    | lnk n b t g => exact ⟨h.byt⟩
  · exact h
theorem Sml.fold : ∀ {ms : List Mem} {l : LTr}, Sml l → (∀ m ∈ ms, m.Ok ∧ m.Two ∧ PathD m.nm) → Sml (ms.foldl goL l) ∧ (ms.foldl goL l).files.length ≤ l.files.length + ms.length
  | [], _, h, _ => ⟨h, Nat.le_refl _⟩
  | m :: r, l, h, k => by
    have k0 := k m List.mem_cons_self
    have g := Sml.fold (ms := r) (h.go k0.1 k0.2.1) fun q hq => k q (List.mem_cons_of_mem _ hq)
    have gl := @goL_len l m k0.2.2
    refine ⟨g.1, ?_⟩
    show (r.foldl goL (goL l m)).files.length ≤ _
    rw [List.length_cons]
    have := g.2
    omega
theorem treeL_g {ms : List Mem} (h : ∀ m ∈ ms, m.Ok ∧ m.Two ∧ PathD m.nm) (hl : ms.length ≤ 12) : TrG (treeL ms) (4 * ms.length) 4000 := by
  obtain ⟨g, gl⟩ := TrI.fold TrI.nil h
  obtain ⟨s, sl⟩ := Sml.fold (l := ⟨[], []⟩) ⟨fun _ h => by cases h⟩ h
  have gl : (treeL ms).at'.length ≤ 0 + 4 * ms.length := gl
  have sl : (treeL ms).files.length ≤ 0 + ms.length := sl
  exact ⟨treeL_house h, by omega, g.nd, g.ix, fun x hx => ⟨(g.byt x hx).1, s.byt x hx⟩, by omega⟩
/-! ### what is changed in the near tree -/
def xMd : TE := tOp (rI (fun x j => 0 < j) fun i j => V.int (i % j)) (tCB rInt1 (tCons (tVar 6) tNil)) (tC (V.int 2))
def xMd2 : TE := tOp (rI (fun x j => 0 < j) fun i j => V.int (i % j)) (tCB rInt1 (tCons (tOp (rI CDivW fun i j => V.int (i / j)) (tVar 6) (tC (V.int 2))) tNil)) (tC (V.int 2))
def xTh (K : PySem.W.Frag) (i : Int) : TE := tOp (rIxT K) (tVar 8) (tC (V.int i))
def xPk (K : PySem.W.Frag) (a b m : TE) : TE := tOp (rIxL K) (tLst (tCons a (tCons b tNil))) m
def nDir (K : PySem.W.Frag) : TS := sDPut (tVar 4) (tVar 7) (tTup (tCons (tC (V.str "directory")) (tCons (xPk K (xTh K 1) (tC (V.int 1)) xMd) (tCons (xPk K (xTh K 2) (tC (V.int 9)) xMd2) tNil))))
def nSym (K : PySem.W.Frag) : TS := sDPut (tVar 4) (tVar 7) (tTup (tCons (tC (V.str "symlink")) (tCons (xPk K (tC (V.str "zz")) (xTh K 1) xMd) (tCons (xTh K 2) (tCons (xPk K (xTh K 3) (tC (V.int 9)) xMd2) tNil)))))
def n1S (K : PySem.W.Frag) : TS := tSeq (tDrop (tBM K "list" rAppend (tVar 5) (tCons (tOp (rIxL K) (tVar 5) (xTh K 1)) tNil))) (sDPut (tVar 4) (tVar 7) (tTup (tCons (tC (V.str "file")) (tCons (tOp (rI0 fun i j => V.int (i - j)) (tCB (rLenQ K) (tCons (tVar 5) tNil)) (tC (V.int 1))) tNil))))
def n2S : TS := sDPut (tVar 4) (tC (V.str "zz")) (tVar 8)
def n3S : TS := tDrop (tDPop1 (tVar 4) (tVar 7))
def n4S (K : PySem.W.Frag) : TS := tSeq (tAsg (tOp (rIxL K) (tVar 5) (xTh K 1)) (gTup K 4 (gCons (gName 9) (gCons (gName 10) (gCons (gName 11) (gCons (gName 12) gNil)))))) (tAsg (tTup (tCons (tVar 9) (tCons (xPk K (tVar 10) (tOp rCat (tVar 10) (tLst (tCons (tC (V.int 0)) tNil))) xMd) (tCons (xPk K (tVar 11) (tC (V.int 3)) xMd2) (tCons (tVar 12) tNil))))) (gSub (tVar 5) (xTh K 1) rSetL))
section
variable {K : PySem.W.Frag} {D : Ends} {H : Hp} {a T0 T A F S t : Addr} {d : Int} {z : Str} {v9 v10 v11 v12 : Option V} {ps : List (Key × V)} {vs : List V} {l : LTr} {x : LT}
def nSl (a T0 T S A F t : Addr) (d : Int) (z : Str) (v9 v10 v11 v12 : Option V) : L2.St := [some (.ref a), some (.ref T0), some (.ref T), some (.ref S), some (.ref A), some (.ref F), some (.int d), some (.str z), some (.ref t), v9, v10, v11, v12]
def NearK (D : Ends) (H : Hp) (a T0 T S A F t : Addr) (d : Int) (z : Str) : Prop := ∀ w9 w10 w11 w12 H' ps' vs' l', LTI H' a T A F ps' vs' l' → TrG l' 51 4001 → (∀ b o, b ≠ A → b ≠ F → H b = some o → H' b = some o) → D.nx (nSl a T0 T S A F t d z w9 w10 w11 w12) H'
theorem two_at {d : Int} {u v : V} {R : V → Prop} (hu : R u) (hv : R v) (d0 : 0 ≤ d) (d1 : d < 2) : ∃ w, R w ∧ atI [u, v] d = some w := by
  obtain ⟨w, hw, ha⟩ := pick_at (xs := [u, v]) d0 d1
  rcases List.mem_cons.mp hw with e | hw
  · exact ⟨w, e ▸ hu, ha⟩
  · rw [List.mem_singleton.mp hw] at ha
    exact ⟨v, hv, ha⟩
theorem LTI.dropA {B : Addr} (h : LTI H B T A F ps vs l) : LTI (upd H A (.dK (dropK ps (Sum.inr z)))) B T A F (dropK ps (Sum.inr z)) vs ⟨Th.dropA l.at' z, l.files⟩ := by
  have nF : F ≠ A := fun e => by have := h.fd; rw [e, h.ad] at this; cases this
  refine ⟨by rw [upd_ne h.ta]; exact h.tr, upd_same, (h.at'.mono fun _ _ y => y.dk h.ad).drop, by rw [upd_ne nF]; exact h.fd, Paired.mapP h.fs fun _ _ ⟨q, d, k1, k2, k3, k4⟩ => ⟨q, d, k1, ?_, ?_, k4⟩, h.ta⟩
  · rw [upd_ne (fun e => by rw [e, h.ad] at k2; cases k2)]; exact k2
  · rw [upd_ne (fun e => by rw [e, h.ad] at k3; cases k3)]; exact k3
theorem paired_set {α β : Type} {R : α → β → Prop} : ∀ {xs : List α} {ys : List β} {i : Nat} {x : α} {y : β}, Paired R xs ys → R x y → Paired R (xs.set i x) (ys.set i y)
  | _, _, _, _, _, .nil, _ => .nil
  | _, _, 0, _, _, .cons _ t, h => .cons h t
  | _, _, i + 1, _, _, .cons r t, h => .cons r (paired_set (i := i) t h)
theorem LTI.setF {B : Addr} {i : Nat} {v : V} {x : LFl} (h : LTI H B T A F ps vs l) (hv : LFl.At H B F v x) : LTI (upd H F (.lst (vs.set i v))) B T A F ps (vs.set i v) ⟨l.at', l.files.set i x⟩ := by
  have nF : F ≠ A := fun e => by have := h.fd; rw [e, h.ad] at this; cases this
  have nT : F ≠ T := fun e => by have := h.fd; rw [e, h.tr] at this; cases this
  have mv : ∀ {v' x'}, LFl.At H B F v' x' → LFl.At (upd H F (.lst (vs.set i v))) B F v' x' := fun {v' x'} ⟨q, d, k1, k2, k3, k4, k5⟩ => ⟨q, d, k1, by rw [upd_ne (fun e => by rw [e, h.fd] at k2; cases k2)]; exact k2, by rw [upd_ne k4]; exact k3, k4, k5⟩
  exact ⟨by rw [upd_ne nT.symm]; exact h.tr, by rw [upd_ne nF.symm]; exact h.ad, h.at'.mono fun _ _ y => y.ls h.fd, upd_same, paired_set (Paired.mapP h.fs fun _ _ y => mv y) (mv hv), h.ta⟩
def mdR (v : V) : Prop := ∃ m, v = .int m ∧ 0 ≤ m ∧ m ≤ 4095
def tmR (v : V) : Prop := ∃ m, v = .int m ∧ 0 ≤ m ∧ m ≤ 8589934591
theorem md0 : 0 ≤ d % 2 := Int.emod_nonneg d (by decide)
theorem md1 : d % 2 < 2 := Int.emod_lt_of_pos d (by decide)
theorem ok_nDir {m i : Int} (g : LTI H a T A F ps vs l) (hG : TrG l 50 4000) (hz : look l.at' z = some (.dir m i)) (ht : H t = some (.tup [.str "directory", .int m, .int i])) (k : NearK D H a T0 T S A F t d z) : nDir K D (nSl a T0 T S A F t d z v9 v10 v11 v12) H := by
  have hk := hG.p.key _ _ hz
  obtain ⟨k1, k2, k3, k4⟩ := hk.2
  have pl : ps.length ≤ 50 := by rw [g.at'.len]; exact hG.few
  unfold nDir xPk xTh xMd xMd2 nSl
  walk_at "rd"
  rename_i p hp
  obtain ⟨w, ⟨m', rfl, m0, m1⟩, ha⟩ := two_at (R := mdR) (u := .int m) (v := .int 1) ⟨m, rfl, k1, k2⟩ ⟨1, rfl, by decide, by decide⟩ (md0 (d := d)) md1
  refine r_ixL (SqL.of upd_same) ha ?_
  walk_at "rd"
  rename_i p2 hp2
  obtain ⟨w, ⟨i', rfl, i0, i1⟩, ha2⟩ := two_at (R := tmR) (u := .int i) (v := .int 9) ⟨i, rfl, k3, k4⟩ ⟨9, rfl, by decide, by decide⟩ (md0 (d := d / 2)) md1
  refine r_ixL (SqL.of upd_same) ha2 ?_
  walk_at "rd"
  rename_i p3 hp3
  have e3 := ((same_new (o := HO.lst [V.int m, V.int 1]) hp).trans (same_new (o := HO.lst [V.int i, V.int 9]) hp2)).trans (same_new (o := HO.tup [V.str "directory", V.int m', V.int i']) hp3)
  have g3 := g.same e3
  refine ⟨A, _, rfl, DPut.k (k := Sum.inr z) g3.ad (Nat.lt_of_le_of_lt pl (by decide)), ?_⟩
  exact k _ _ _ _ _ _ _ _ (g3.putA (x := .dir m' i') ⟨p3, rfl, upd_same⟩) ((hG.put0 (x := .dir m' i') hk.1 ⟨m0, m1, i0, i1⟩ (hG.p.par _ _ hz) (.inl ⟨_, _, rfl⟩) rfl (fun i e => by cases e)).mono (Nat.le_refl _) (by decide)) (fun b o nA nF h => by rw [upd_ne nA]; exact e3 _ _ h)
def nmR (v : V) : Prop := ∃ g : Str, v = .str g ∧ nameB g = true
theorem ok_nSym {s : Str} {m i : Int} (g : LTI H a T A F ps vs l) (hG : TrG l 50 4000) (hz : look l.at' z = some (.sym s m i)) (ht : H t = some (.tup [.str "symlink", .str s, .int m, .int i])) (k : NearK D H a T0 T S A F t d z) : nSym K D (nSl a T0 T S A F t d z v9 v10 v11 v12) H := by
  have hk := hG.p.key _ _ hz
  obtain ⟨k0, k1, k2, k3, k4⟩ := hk.2
  have pl : ps.length ≤ 50 := by rw [g.at'.len]; exact hG.few
  unfold nSym xPk xTh xMd xMd2 nSl
  walk_at "rd"
  rename_i p hp
  obtain ⟨w, ⟨s', rfl, s0⟩, ha⟩ := two_at (R := nmR) (u := .str "zz") (v := .str s) ⟨_, rfl, by decide +kernel⟩ ⟨_, rfl, k0⟩ (md0 (d := d)) md1
  refine r_ixL (SqL.of upd_same) ha ?_
  walk_at "rd"
  rename_i p2 hp2
  obtain ⟨w, ⟨i', rfl, i0, i1⟩, ha2⟩ := two_at (R := tmR) (u := .int i) (v := .int 9) ⟨i, rfl, k3, k4⟩ ⟨9, rfl, by decide, by decide⟩ (md0 (d := d / 2)) md1
  refine r_ixL (SqL.of upd_same) ha2 ?_
  walk_at "rd"
  rename_i p3 hp3
  have e3 := ((same_new (o := HO.lst [V.str "zz", V.str s]) hp).trans (same_new (o := HO.lst [V.int i, V.int 9]) hp2)).trans (same_new (o := HO.tup [V.str "symlink", V.str s', V.int m, V.int i']) hp3)
  have g3 := g.same e3
  refine ⟨A, _, rfl, DPut.k (k := Sum.inr z) g3.ad (Nat.lt_of_le_of_lt pl (by decide)), ?_⟩
  exact k _ _ _ _ _ _ _ _ (g3.putA (x := .sym s' m i') ⟨p3, rfl, upd_same⟩) ((hG.put0 (x := .sym s' m i') hk.1 ⟨s0, k1, k2, i0, i1⟩ (hG.p.par _ _ hz) (.inr (hG.leaf hz (fun _ _ e => by cases e))) rfl (fun i e => by cases e)).mono (Nat.le_refl _) (by decide)) (fun b o nA nF h => by rw [upd_ne nA]; exact e3 _ _ h)
theorem ok_n1S {i : Nat} (g : LTI H a T A F ps vs l) (hG : TrG l 50 4000) (hz : look l.at' z = some (.fil i)) (ht : H t = some (.tup [.str "file", .int (i : Int)])) (fl : l.files.length ≤ 99) (k : NearK D H a T0 T S A F t d z) : n1S K D (nSl a T0 T S A F t d z v9 v10 v11 v12) H := by
  have hk := hG.p.key _ _ hz
  have pl : ps.length ≤ 50 := by rw [g.at'.len]; exact hG.few
  have hi := hG.ix _ _ hz
  obtain ⟨w, hw⟩ : ∃ w, vs[i]? = some w := ⟨_, List.getElem?_eq_getElem (show i < vs.length by rw [g.fs.length]; exact hi)⟩
  obtain ⟨x9, hx9, hat⟩ := paired_at g.fs hw
  have hx9m := List.mem_of_getElem? hx9
  unfold n1S xTh nSl
  have gfd := g.fd
  refine r_seq ?_
  walk_at "rd"
  refine r_ixL (SqL.of gfd) (atI_nat hw) ?_
  walk_at "rd"
  refine r_append gfd (Nat.lt_of_le_of_lt (show vs.length ≤ 100 by rw [g.fs.length]; omega) (by decide)) ?_
  have g2 := g.addF hat
  have gfd2 := g2.fd
  have nm : ∀ b o, b ≠ F → H b = some o → upd H F (.lst (vs ++ [w])) b = some o := fun b o nb h => by rw [upd_ne nb]; exact h
  have vl : vs.length = l.files.length := g.fs.length
  generalize upd H F (.lst (vs ++ [w])) = H2 at g2 gfd2 nm
  walk_at "rd"
  rename_i p3 hp3
  have e3 := same_new (o := HO.tup [V.str "file", V.int (((vs ++ [w]).length : Int) - 1)]) hp3
  have g3 := g2.same e3
  refine ⟨A, _, rfl, DPut.k (k := Sum.inr z) g3.ad (Nat.lt_of_le_of_lt pl (by decide)), ?_⟩
  refine k _ _ _ _ _ _ _ _ (g3.putA (x := .fil l.files.length) ⟨p3, rfl, ?_⟩) ((hG.put (x := .fil l.files.length) (fs := l.files ++ [x9]) hk.1 True.intro (hG.p.par _ _ hz) (.inr (hG.leaf hz (fun _ _ e => by cases e))) (fun y hy => ?_) (by rw [List.length_append]; exact Nat.le_add_right _ _) (by rw [List.length_append]; show l.files.length + 1 ≤ 100; omega) (fun i e => ?_)).mono (Nat.le_refl _) (by decide)) (fun b o nA nF h => by rw [upd_ne nA]; exact e3 _ _ (nm _ _ nF h))
  · rw [upd_same]
    unfold LT.vals
    rw [show ((vs ++ [w]).length : Int) - 1 = (l.files.length : Int) by rw [List.length_append, vl]; show ((l.files.length + 1 : Nat) : Int) - 1 = _; omega]
  · rcases List.mem_append.mp hy with hy | hy
    · exact ⟨hG.p.fok y hy, hG.byt y hy⟩
    · rw [List.mem_singleton.mp hy]
      exact ⟨hG.p.fok _ hx9m, hG.byt _ hx9m⟩
  · cases e
    rw [List.length_append]
    show l.files.length < l.files.length + 1
    omega
theorem ok_n2S {i : Nat} (g : LTI H a T A F ps vs l) (hG : TrG l 50 4000) (hz : look l.at' z = some (.fil i)) (ht : H t = some (.tup [.str "file", .int (i : Int)])) (k : NearK D H a T0 T S A F t d z) : n2S D (nSl a T0 T S A F t d z v9 v10 v11 v12) H := by
  have pl : ps.length ≤ 50 := by rw [g.at'.len]; exact hG.few
  unfold n2S nSl
  walk_at "rd"
  refine ⟨A, _, rfl, DPut.k (k := Sum.inr "zz") g.ad (Nat.lt_of_le_of_lt pl (by decide)), ?_⟩
  exact k _ _ _ _ _ _ _ _ (g.putA (x := .fil i) ⟨t, rfl, ht⟩) ((hG.put0 (x := .fil i) path_zz True.intro (fun p hp => by rw [above_one zz_tl.1] at hp; cases hp) (.inr fun z y hz => PathD.lone (hG.p.key _ _ hz).1 zz_tl.1 zz_tl.2) rfl (fun j e => by cases e; exact hG.ix _ _ hz)).mono (Nat.le_refl _) (by decide)) (fun b o nA nF h => by rw [upd_ne nA]; exact h)
theorem ok_n3S {i : Nat} (g : LTI H a T A F ps vs l) (hG : TrG l 50 4000) (hz : look l.at' z = some (.fil i)) (k : NearK D H a T0 T S A F t d z) : n3S D (nSl a T0 T S A F t d z v9 v10 v11 v12) H := by
  unfold n3S nSl tDPop1
  walk_at "rd"
  rcases g.at'.get (z := z) with ⟨_, h2⟩ | ⟨v, x, h1, h2, _⟩
  · rw [h2] at hz; cases hz
  · refine ⟨A, rfl, .inl ⟨ps, .inl g.ad⟩, ?_⟩
    walk_at "rd"
    refine ⟨ps, Sum.inr z, v, g.ad, rfl, h1, ?_⟩
    exact k _ _ _ _ _ _ _ _ g.dropA ((hG.dropN hz (fun _ _ e => by cases e)).mono (by decide) (by decide)) (fun b o nA nF h => by rw [upd_ne nA]; exact h)
theorem ok_n4S {i : Nat} (g : LTI H a T A F ps vs l) (hG : TrG l 50 4000) (hz : look l.at' z = some (.fil i)) (ht : H t = some (.tup [.str "file", .int (i : Int)])) (ha' : (H a).isSome = true) (k : NearK D H a T0 T S A F t d z) : n4S K D (nSl a T0 T S A F t d z v9 v10 v11 v12) H := by
  have hi := hG.ix _ _ hz
  have hiv : i < vs.length := by rw [g.fs.length]; exact hi
  obtain ⟨w, hw⟩ : ∃ w, vs[i]? = some w := ⟨_, List.getElem?_eq_getElem hiv⟩
  obtain ⟨x9, hx9, q9, e9, rfl, hq9, he9, nF9, nB9⟩ := paired_at g.fs hw
  have hx9m := List.mem_of_getElem? hx9
  have fk := hG.p.fok _ hx9m
  have fb := hG.byt _ hx9m
  unfold n4S xPk xTh xMd xMd2 nSl
  have gfd := g.fd
  refine r_seq ?_
  walk_at "rd"
  refine r_ixL (SqL.of gfd) (atI_nat hw) ?_
  walk_at "rd"
  rename_i p0 hp0
  have e0 := same_new (o := HO.lst [V.int 0]) hp0
  refine ⟨e9, p0, _, _, rfl, rfl, e0 _ _ he9, upd_same, by rw [List.length_map]; exact Nat.le_trans (show x9.ns.length + 1 ≤ 5000 by omega) (by decide), fun p1 hp1 => ?_⟩
  have e1 := same_new (o := HO.lst (x9.ns.map V.int ++ [V.int 0])) hp1
  walk_at "rd"
  rename_i p2 hp2
  have e2 := same_new (o := HO.lst [V.ref e9, V.ref p1]) hp2
  have E := (e0.trans e1).trans e2
  have gp2 : upd (upd (upd H p0 (HO.lst [V.int 0])) p1 (HO.lst (x9.ns.map V.int ++ [V.int 0]))) p2 (HO.lst [V.ref e9, V.ref p1]) p2 = some (.lst [V.ref e9, V.ref p1]) := upd_same
  have gp1 : upd (upd (upd H p0 (HO.lst [V.int 0])) p1 (HO.lst (x9.ns.map V.int ++ [V.int 0]))) p2 (HO.lst [V.ref e9, V.ref p1]) p1 = some (.lst ((x9.ns ++ [0]).map V.int)) := by rw [List.map_append]; exact e2 _ _ upd_same
  have fp1 : H p1 = none := e0.free hp1
  generalize upd (upd (upd H p0 (HO.lst [V.int 0])) p1 (HO.lst (x9.ns.map V.int ++ [V.int 0]))) p2 (HO.lst [V.ref e9, V.ref p1]) = H2 at E gp2 gp1 ⊢
  clear e0 e1 e2
  obtain ⟨w, ⟨e', ns', rfl, hn, nF', nB', nb1, nb2⟩, ha⟩ := two_at (R := fun v => ∃ (e : Addr) (ns : List Int), v = .ref e ∧ H2 e = some (.lst (ns.map V.int)) ∧ e ≠ F ∧ e ≠ a ∧ ns.all inByte = true ∧ ns.length ≤ 4001) (u := .ref e9) (v := .ref p1) ⟨e9, _, rfl, E _ _ he9, nF9, nB9, fb.1, Nat.le_succ_of_le fb.2⟩ ⟨p1, _, rfl, gp1, (ne_of_none gfd fp1).symm, (by obtain ⟨o, ho⟩ := Option.isSome_iff_exists.mp ha'; exact (ne_of_none ho fp1).symm), by rw [List.all_append, fb.1]; rfl, by rw [List.length_append]; show x9.ns.length + 1 ≤ 4001; have := fb.2; omega⟩ (md0 (d := d)) md1
  refine r_ixL (SqL.of gp2) ha ?_
  walk_at "rd"
  rename_i p3 hp3
  obtain ⟨w, ⟨m', rfl, m0, m1⟩, ha2⟩ := two_at (R := mdR) (u := .int x9.m) (v := .int 3) ⟨x9.m, rfl, fk.2.1, fk.2.2.1⟩ ⟨3, rfl, by decide, by decide⟩ (md0 (d := d / 2)) md1
  refine r_ixL (SqL.of upd_same) ha2 ?_
  walk_at "rd"
  rename_i p4 hp4
  have e3 := (same_new (o := HO.lst [V.int x9.m, V.int 3]) hp3).trans (same_new (o := HO.tup [V.str "file", V.ref e', V.int m', V.int x9.t]) hp4)
  have gp4 : upd (upd H2 p3 (HO.lst [V.int x9.m, V.int 3])) p4 (HO.tup [V.str "file", V.ref e', V.int m', V.int x9.t]) p4 = some (.tup [V.str "file", V.ref e', V.int m', V.int x9.t]) := upd_same
  have E3 := E.trans e3
  have hn3 := e3 _ _ hn
  generalize upd (upd H2 p3 (HO.lst [V.int x9.m, V.int 3])) p4 (HO.tup [V.str "file", V.ref e', V.int m', V.int x9.t]) = H4 at E3 gp4 hn3 ⊢
  have g4 := g.same E3
  have ht4 := E3 _ _ ht
  refine r_ixT (i := 1) (v := .int (i : Int)) (SqT.of ht4) (atI_nat (j := 1) rfl) ?_
  refine ⟨F, vs, (i : Int), i, rfl, rfl, g4.fd, by unfold ixN; rw [if_pos (by omega), if_pos (by omega)]; simp, ?_⟩
  exact k _ _ _ _ _ _ _ _ (g4.setF (i := i) (x := ⟨ns', m', x9.t⟩) ⟨p4, e', rfl, gp4, hn3, nF', nB'⟩) (((hG.mono (a' := 50) (b' := 4001) (Nat.le_refl _) (by decide)).setF (i := i) (x := ⟨ns', m', x9.t⟩) ⟨⟨Nat.le_trans nb2 (by decide), m0, m1, fk.2.2.2⟩, nb1, nb2⟩).mono (by decide) (Nat.le_refl _)) (fun b o nA nF h => by rw [upd_ne nF]; exact E3 _ _ h)
end
abbrev s__law_near : Stmt := topS 85
abbrev N__law_near : List Str := ["_law_source_here", "_law_tree_here", "_law_found", "_law_names", "_law_at", "_law_files", "_law_road", "_law_name", "_law_thing", "_law_word_here", "_law_numbers_here", "_law_bits", "_law_time_here"]
theorem sc__law_near : FnScope N__law_near ["_law_source_here", "_law_tree_here"] (defScope s__law_near) := ⟨rfl, rfl, rfl, by decide +kernel, rfl, by decide +kernel, by decide +kernel⟩
theorem LTI.but {H H' : Hp} {a T A F : Addr} {ps : List (Key × V)} {vs : List V} {l : LTr} (hs : Src H a) (b : But a H H') (g : LTI H a T A F ps vs l) : LTI H' a T A F ps vs l := by
  obtain ⟨i, j, k, hk, _⟩ := hs
  have nt : ∀ {t xs}, H t = some (.tup xs) → t ≠ a := fun h e => by rw [e, hk] at h; cases h
  have nd : ∀ {t xs}, H t = some (.dK xs) → t ≠ a := fun h e => by rw [e, hk] at h; cases h
  have nF : F ≠ a := fun e => by
    have h1 := g.fd
    rw [e, hk] at h1
    cases h1
    have fs := g.fs
    generalize l.files = fl at fs
    cases fs with
    | cons r _ => obtain ⟨q, d, h1, _⟩ := r; cases h1
  exact ⟨b _ _ (nd g.tr) g.tr, b _ _ (nd g.ad) g.ad, g.at'.mono fun _ _ ⟨t, h1, h2⟩ => ⟨t, h1, b _ _ (nt h2) h2⟩, b _ _ nF g.fd, Paired.mapP g.fs fun _ _ ⟨q, d, h1, h2, h3, h4, h5⟩ => ⟨q, d, h1, b _ _ (nt h2) h2, b _ _ h5 h3, h4, h5⟩, g.ta⟩
section
variable {P : Program} {w : World} {K : PySem.W.Frag} {mg : Str → Option Value} {base : Heap}
def spNear : Sp := fun vs H Q _ => ∃ (a T : Addr) (u : Nat) (l : LTr), vs = [.ref a, .ref T] ∧ SrcB u H a ∧ u ≤ 800000 ∧ LTR H a T l ∧ TrG l 50 4000 ∧ l.files.length ≤ 99 ∧ ∀ T' l' H', H T' = none → LTR H' a T' l' → TrG l' 51 4001 → SrcB (u + 2) H' a → But a H H' → Q (.ref T') H'
theorem sp_near {a T : Addr} {u : Nat} {l : LTr} {H : Hp} {Q : VK} {E : XK} (hs : SrcB u H a) (hu : u ≤ 800000) (hT : LTR H a T l) (g : TrG l 50 4000) (gf : l.files.length ≤ 99) (k : ∀ T' l' H', H T' = none → LTR H' a T' l' → TrG l' 51 4001 → SrcB (u + 2) H' a → But a H H' → Q (.ref T') H') : spNear ([.ref a, .ref T] ++ []) H Q E := ⟨a, T, u, l, rfl, hs, hu, hT, g, gf, k⟩
theorem ok_lnear {f : Addr} {fd : FuncData} {k : Nat} (F : Fun K "_law_near" "_law_near" s__law_near f fd) (m1 : mg "sorted" = none) (m2 : mg "int" = none) (m3 : mg "len" = none) (c_draw : CalT P w K mg base 2 "_law_draw" spDraw) (c_lcopied : CalT P w K mg base 2 "_law_copied" spLCopied) : FnOk P w K mg base CX0 (k + 3) f fd ["_law_source_here", "_law_tree_here"] spNear := by
  refine F.ok sc__law_near (fun vs H Q E h => ?_) (fun cdv A outer s H vs Q E hr h => ?_)
  · obtain ⟨a, T, u, l, rfl, _⟩ := h
    rfl
  · obtain ⟨a, T, u, l, rfl, hs, hu9, hT, g9, gf, q⟩ := h
    have hu := hu_of hr
    have hu64 := hr.units
    have nd := sc__law_near.nd
    refine ⟨_, (pss_cons (ps_par (i := 2) (j := 3) rfl nd rfl rfl (by decide) rfl rfl (pa_cons (pe_cc c_lcopied hr (by omega) (by rfl) (pa_cons (pv 1) pa_nil)) (pa_cons (pe_callB (call_sortedD rfl) (by rfl) (by assumption) (by decide +kernel) (pa_cons (pe_dget hu (pv 1) pe_str (fun _ _ => rfl)) pa_nil)) pa_nil)) (by rfl))
      (pss_cons (ps_par (i := 4) (j := 5) rfl nd rfl rfl (by decide) rfl rfl (pa_cons (pe_dget hu (pv 2) pe_str (fun _ _ => rfl)) (pa_cons (pe_dget hu (pv 2) pe_str (fun _ _ => rfl)) pa_nil)) (by rfl))
      (pss_cons (ps_set (i := 6) nd rfl (Or.inl rfl) (pe_cc c_draw hr (by omega) (by rfl) (pa_cons (pv 0) (pa_cons pe_int pa_nil))))
      (pss_cons (ps_if (PW.pt (pw_or (pt_cmpR (op_eqE (Nat.lt_of_succ_lt hu)) (pv 3) (pe_lst pa_nil) (nomark _)) (pw_or1 (pt_cmpR op_eq (pv 6) pe_int (nomark _)))))
        (pss_one (ps_ret (pv 2)))
        pss_nil)
      (pss_cons (ps_set (i := 7) nd rfl (Or.inl rfl) (pe_ix (ix_listK K) (pv 3) (pe_cc c_draw hr (by omega) (by rfl) (pa_cons (pv 0) (pa_cons (pe_callB (call_lenK K) (by rfl) (by assumption) (by decide +kernel) (pa_cons (pv 3) pa_nil)) pa_nil))) (fun _ _ => rfl)))
      (pss_cons (ps_set (i := 8) nd rfl (Or.inl rfl) (pe_dget hu (pv 4) (pv 7) (fun _ _ => rfl)))
      (pss_cons (ps_if (pt_cmpR op_eq (pe_ix (ix_tupK K) (pv 8) pe_int (fun _ _ => rfl)) pe_str (nomark _))
        (pss_one (ps_dput hu (pv 4) (pv 7) (pe_tup (pa_cons pe_str (pa_cons (pe_ix (ix_listK K) (pe_lst (pa_cons (pe_ix (ix_tupK K) (pv 8) pe_int (fun _ _ => rfl)) (pa_cons pe_int pa_nil))) (pe_op op_mod (pe_callTy call_rInt1 (by rfl) (by assumption) (by decide +kernel) (pa_cons (pv 6) pa_nil)) pe_int) (fun _ _ => rfl)) (pa_cons (pe_ix (ix_listK K) (pe_lst (pa_cons (pe_ix (ix_tupK K) (pv 8) pe_int (fun _ _ => rfl)) (pa_cons pe_int pa_nil))) (pe_op op_mod (pe_callTy call_rInt1 (by rfl) (by assumption) (by decide +kernel) (pa_cons (pe_op op_fdivW (pv 6) pe_int) pa_nil)) pe_int) (fun _ _ => rfl)) pa_nil)))) rfl))
        (pss_one (ps_if (pt_cmpR op_eq (pe_ix (ix_tupK K) (pv 8) pe_int (fun _ _ => rfl)) pe_str (nomark _))
        (pss_one (ps_dput hu (pv 4) (pv 7) (pe_tup (pa_cons pe_str (pa_cons (pe_ix (ix_listK K) (pe_lst (pa_cons pe_str (pa_cons (pe_ix (ix_tupK K) (pv 8) pe_int (fun _ _ => rfl)) pa_nil))) (pe_op op_mod (pe_callTy call_rInt1 (by rfl) (by assumption) (by decide +kernel) (pa_cons (pv 6) pa_nil)) pe_int) (fun _ _ => rfl)) (pa_cons (pe_ix (ix_tupK K) (pv 8) pe_int (fun _ _ => rfl)) (pa_cons (pe_ix (ix_listK K) (pe_lst (pa_cons (pe_ix (ix_tupK K) (pv 8) pe_int (fun _ _ => rfl)) (pa_cons pe_int pa_nil))) (pe_op op_mod (pe_callTy call_rInt1 (by rfl) (by assumption) (by decide +kernel) (pa_cons (pe_op op_fdivW (pv 6) pe_int) pa_nil)) pe_int) (fun _ _ => rfl)) pa_nil))))) rfl))
        (pss_one (ps_if (pt_cmpR op_eq (pv 6) pe_int (nomark _))
        (pss_cons (ps_expr (pe_bm PySem.F.plainAttrs_list PySem.F.slot_list_append PySem.F.type_list_append mt_append (pv 5) (pa_cons (pe_ix (ix_listK K) (pv 5) (pe_ix (ix_tupK K) (pv 8) pe_int (fun _ _ => rfl)) (fun _ _ => rfl)) pa_nil)))
      (pss_one (ps_dput hu (pv 4) (pv 7) (pe_tup (pa_cons pe_str (pa_cons (pe_op op_sub (pe_callB (call_lenK K) (by rfl) (by assumption) (by decide +kernel) (pa_cons (pv 5) pa_nil)) pe_int) pa_nil))) rfl)))
        (pss_one (ps_if (pt_cmpR op_eq (pv 6) pe_int (nomark _))
        (pss_one (ps_dput hu (pv 4) pe_str (pv 8) rfl))
        (pss_one (ps_if (pt_cmpR op_eq (pv 6) pe_int (nomark _))
        (pss_one (ps_expr (pe_dpop1 (pv 4) (pv 7) ⟨rfl, rfl, rfl, rfl⟩)))
        (pss_cons (ps_asg (pe_ix (ix_listK K) (pv 5) (pe_ix (ix_tupK K) (pv 8) pe_int (fun _ _ => rfl)) (fun _ _ => rfl)) (pg_tupK K (pg_tup rfl (pgs_cons (pg_name (i := 9) nd rfl (Or.inl rfl)) (pgs_cons (pg_name (i := 10) nd rfl (Or.inl rfl)) (pgs_cons (pg_name (i := 11) nd rfl (Or.inl rfl)) (pgs_cons (pg_name (i := 12) nd rfl (Or.inl rfl)) pgs_nil)))))))
      (pss_one (ps_asg (pe_tup (pa_cons (pv 9) (pa_cons (pe_ix (ix_listK K) (pe_lst (pa_cons (pv 10) (pa_cons (pe_op op_cat (pv 10) (pe_lst (pa_cons pe_int pa_nil))) pa_nil))) (pe_op op_mod (pe_callTy call_rInt1 (by rfl) (by assumption) (by decide +kernel) (pa_cons (pv 6) pa_nil)) pe_int) (fun _ _ => rfl)) (pa_cons (pe_ix (ix_listK K) (pe_lst (pa_cons (pv 11) (pa_cons pe_int pa_nil))) (pe_op op_mod (pe_callTy call_rInt1 (by rfl) (by assumption) (by decide +kernel) (pa_cons (pe_op op_fdivW (pv 6) pe_int) pa_nil)) pe_int) (fun _ _ => rfl)) (pa_cons (pv 12) pa_nil))))) (pg_sub (pv 5) (pe_ix (ix_tupK K) (pv 8) pe_int (fun _ _ => rfl)) set_list)))))))))))))
      (pss_one (ps_ret (pv 2)))))))))), ?_⟩
    walk_at "rd"
    refine sp_lcopied hT fun T' A' F' ps vs H1 n1 n2 n3 e1 gI => ?_
    obtain ⟨A0, F0, ps0, vs0, gO⟩ := hT
    walk_at "rd"
    refine ⟨T, .ref A0, rfl, .inl ⟨_, Sum.inr "at", .inl (e1 _ _ gO.tr), rfl, rfl⟩, ?_⟩
    walk_at "rd"
    refine ⟨A0, ps0, l.at'.map (·.1), rfl, .inl (e1 _ _ gO.ad), gO.at'.keys, by rw [List.length_map]; have := g9.few; omega, fun ys S hp hsrt hS => ?_⟩
    have e2 := same_new (o := HO.lst (ys.map V.str)) hS
    have g2 := gI.same e2
    have gS2 : upd H1 S (.lst (ys.map V.str)) S = some (.lst (ys.map V.str)) := upd_same
    have hs2 := hs.same (e1.trans e2)
    have nS : S ≠ a := (hs.same e1).ne hS
    have e12 := e1.trans e2
    generalize upd H1 S (.lst (ys.map V.str)) = H2 at e12 g2 gS2 hs2
    clear e2
    walk_at "rd"
    refine ⟨T', .ref A', rfl, .inl ⟨_, Sum.inr "at", .inl g2.tr, rfl, rfl⟩, ?_⟩
    walk_at "rd"
    refine ⟨T', .ref F', rfl, .inl ⟨_, Sum.inr "files", .inl g2.tr, rfl, rfl⟩, ?_⟩
    walk_at "rd"
    refine sp_draw hs2 (by omega) (by decide) (by decide) fun d H3 d0 d1 hs3 hb3 => ?_
    have g3 := g2.but hs2.src hb3
    have gS3 := hb3 _ _ nS gS2
    have bb3 : But a H H3 := (Same.but e12).trans hb3
    walk_at "rd"
    rename_i p hp9
    refine ⟨S, _, _, rfl, rfl, upd_old hp9 gS3, upd_same, ?_⟩
    have g4 := g3.same (same_new (o := HO.lst []) hp9)
    have gS4 : upd H3 p (HO.lst []) S = some (.lst (ys.map V.str)) := upd_old hp9 gS3
    have hs4 := hs3.new (o := HO.lst []) hp9
    have bb4 := bb3.trans (Same.but (same_new (o := HO.lst []) hp9))
    generalize upd H3 p (HO.lst []) = H4 at g4 gS4 hs4 bb4
    have fin0 : ∀ H', LTI H' a T' A' F' ps vs l → SrcB (u + 2) H' a → But a H H' → Q (.ref T') H' := fun H' g hs b => q T' l H' n1 ⟨A', F', ps, vs, g⟩ (g9.mono (by decide) (by decide)) hs b
    cases ys with
    | nil =>
      refine ⟨true, rfl, ?_⟩
      rw [if_pos rfl]
      walk_at "rd"
      exact fin0 _ g4 (hs4.mono (by omega)) bb4
    | cons y ys =>
      refine ⟨false, rfl, ?_⟩
      rw [if_neg (by decide)]
      walk_at "rd"
      refine r_iteD (fun _ => ?_) (fun _ => ?_)
      · walk_at "rd"
        exact fin0 _ g4 (hs4.mono (by omega)) bb4
      · walk_at "rd"
        refine sp_draw hs4 (by omega) (by rw [List.length_map, List.length_cons]; omega) (by have h1 := hp.length_eq; have h2 := g9.few; rw [List.length_map] at h1 ⊢; omega) fun j H5 j0 j1 hs5 hb5 => ?_
        obtain ⟨v, hv, hat⟩ := pick_at (xs := (y :: ys).map V.str) j0 j1
        obtain ⟨z, hz, rfl⟩ := List.mem_map.mp hv
        have g5 := g4.but hs4.src hb5
        have bb5 := bb4.trans hb5
        refine r_ixL (SqL.of (hb5 _ _ nS gS4)) hat ?_
        walk_at "rd"
        rcases g5.at'.get (z := z) with ⟨_, h2⟩ | ⟨v, x, h1, h2, t, rfl, ht⟩
        · have h3 := look_mem.mpr (hp.mem_iff.mp hz)
          rw [h2] at h3
          cases h3
        refine ⟨A', .ref t, rfl, .inl ⟨ps, Sum.inr z, .inl g5.ad, rfl, h1.symm⟩, ?_⟩
        have nk : NearK { nx := tRet (tVar 2) { nx := fun _ H' => Q V.non H', rt := Q }, rt := Q } H5 a T T' S A' F' t d z := fun w9 w10 w11 w12 H' ps' vs' l' gI gG fr => by
          obtain ⟨i1, i2, i3, hk, _⟩ := hs.src
          have na : a ≠ A' := ne_of_none hk n2
          have nf : a ≠ F' := ne_of_none hk n3
          refine r_ret (r_var rfl (q T' l' H' n1 ⟨A', F', ps', vs', gI⟩ gG ?_ fun b o nb h => fr _ _ (ne_of_none h n2) (ne_of_none h n3) (bb5 _ _ nb h)))
          obtain ⟨x1, x2, x3, x4, x5⟩ := hs5
          exact ⟨x1, x2, x3, fr _ _ na nf x4, x5⟩
        have ht2 : (H5 a).isSome = true := by obtain ⟨i1, i2, i3, hk, _⟩ := hs5.src; rw [hk]; rfl
        walk_at "rd"
        refine r_ixT (i := 0) (v := .str x.kind) (SqT.of ht) (by obtain ⟨r, hr'⟩ := x.vals0; rw [hr']; exact atI_nat (j := 0) rfl) ?_
        walk_at "rd"
        rw [dec_strV]
        have g9' : TrG l 50 4000 := g9
        cases x with
        | dir m i =>
          refine r_iteD (fun _ => ?_) (fun h => absurd rfl h)
          exact (show nDir K _ (nSl a T T' S A' F' t d z none none none none) H5 from ok_nDir g5 g9 h2 ht nk)
        | sym s m i =>
          refine r_iteD (fun h => absurd h (by decide +kernel : ¬ ("symlink" : Str) = "directory")) (fun _ => ?_)
          walk_at "rd"
          refine r_iteD (fun _ => ?_) (fun h => absurd rfl h)
          exact (show nSym K _ (nSl a T T' S A' F' t d z none none none none) H5 from ok_nSym g5 g9 h2 ht nk)
        | fil i =>
          refine r_iteD (fun h => absurd h (by decide +kernel : ¬ ("file" : Str) = "directory")) (fun _ => ?_)
          walk_at "rd"
          refine r_iteD (fun _ => ?_) (fun _ => ?_)
          · exact (show n1S K _ (nSl a T T' S A' F' t d z none none none none) H5 from ok_n1S g5 g9 h2 ht gf nk)
          · refine r_if ?_
            walk_at "rd"
            refine r_iteD (fun _ => ?_) (fun _ => ?_)
            · exact (show n2S _ (nSl a T T' S A' F' t d z none none none none) H5 from ok_n2S g5 g9 h2 ht nk)
            · refine r_if ?_
              walk_at "rd"
              refine r_iteD (fun _ => ?_) (fun _ => ?_)
              · exact (show n3S _ (nSl a T T' S A' F' t d z none none none none) H5 from ok_n3S g5 g9 h2 nk)
              · exact (show n4S K _ (nSl a T T' S A' F' t d z none none none none) H5 from ok_n4S g5 g9 h2 ht ht2 nk)
end
/-! ### a member for an entry -/
def xT4 (K : PySem.W.Frag) (i : Int) : TE := tOp (rIxT K) (tVar 4) (tC (V.int i))
def hApp (K : PySem.W.Frag) (m : TE) : TS := tDrop (tBM K "list" rAppend (tVar 2) (tCons m tNil))
def hIs (K : PySem.W.Frag) (z : Str) : TT := tTest (tOp rEq (xT4 K 0) (tC (V.str z)))
def hTn (K : PySem.W.Frag) (c : Cs) : TS :=
  tIfS (hIs K "file") (hApp K (tMakS (fun vs zs H Q => vs.length = 3 ∧ ∀ (E : XK), spFileI c.F (vs ++ zs) H Q E) [Str.ofString "mode", Str.ofString "time"].length c.F (tCons (tVar 3) (tCons (xT4 K 1) tNil)) (tCons (xT4 K 2) (tCons (xT4 K 3) tNil))))
  (tIfS (hIs K "directory") (hApp K (tMakS (fun vs zs H Q => vs.length = 2 ∧ ∀ (E : XK), spDirI c.D (vs ++ zs) H Q E) [Str.ofString "mode", Str.ofString "time"].length c.D (tCons (tVar 3) tNil) (tCons (xT4 K 1) (tCons (xT4 K 2) tNil))))
  (tIfS (hIs K "symlink") (hApp K (tMakS (fun vs zs H Q => vs.length = 3 ∧ ∀ (E : XK), spSymI c.Y (vs ++ zs) H Q E) [Str.ofString "mode", Str.ofString "time"].length c.Y (tCons (tVar 3) (tCons (xT4 K 1) tNil)) (tCons (xT4 K 2) (tCons (xT4 K 3) tNil))))
  (hApp K (tMakS (fun vs zs H Q => zs = [] ∧ ∀ (E : XK), spSymI c.L (vs ++ [V.int 420, V.int 0]) H Q E) ([] : List Str).length c.L (tCons (tVar 3) (tCons (xT4 K 1) tNil)) tNil))))
section
variable {K : PySem.W.Frag} {D : Ends} {H : Hp} {c : Cs} {T M t : Addr} {r : Int} {z : Str} {ms : List V}
def hSl (T M t : Addr) (r : Int) (z : Str) : L2.St := [some (.ref T), some (.int r), some (.ref M), some (.str z), some (.ref t)]
def HtK (D : Ends) (H : Hp) (c : Cs) (T M t : Addr) (r : Int) (z : Str) (x : Thg) (ms : List V) : Prop := ∀ (y : Addr) H5, H y = none → Same H H5 → (memR z x).Ins c H5 y → D.nx (hSl T M t r z) (upd H5 M (.lst (ms ++ [.ref y])))
theorem ok_hTn {x : Thg} (hx : SqT K H t x.vals) (ok : (memR z x).Ok) (gM : H M = some (.lst ms)) (hl : ms.length ≤ 1000) (k : HtK D H c T M t r z x ms) : hTn K c D (hSl T M t r z) H := by
  have sz : ms.length < sizeLine := Nat.lt_of_le_of_lt hl (by decide)
  unfold hTn hIs hApp xT4 hSl
  cases x with
  | file y m i =>
    have hx : SqT K H t [.str "file", .byt y, .int m, .int i] := hx
    have hs : y.size ≤ 4096 := by have := ok.2.1; simpa [Bt.nums] using this
    walk_at "rd"
    refine r_iteD (fun _ => ?_) (fun h => absurd rfl h)
    walk_at "rd"
    refine ⟨rfl, fun y9 dx hy hdx ne => ⟨rfl, fun E => ⟨y9, dx, z, y, m, i, rfl, upd_same, ok.1, hs, fun H' fr hx' => ⟨rfl, r_nil ⟨M, ms, _, rfl, rfl, frame_same hy hdx fr _ _ gM, sz, ?_⟩⟩⟩⟩⟩
    exact k y9 H' hy (frame_same hy hdx fr) ⟨dx, by rw [byteArr_nums]; exact hx'⟩
  | dir m i =>
    have hx : SqT K H t [.str "directory", .int m, .int i] := hx
    walk_at "rd"
    refine r_iteD (fun _ => ?_) (fun h => absurd rfl h)
    walk_at "rd"
    refine ⟨rfl, fun y9 dx hy hdx ne => ⟨rfl, fun E => ⟨y9, dx, z, m, i, rfl, upd_same, ok, fun H' fr hx' => ⟨rfl, r_nil ⟨M, ms, _, rfl, rfl, frame_same hy hdx fr _ _ gM, sz, ?_⟩⟩⟩⟩⟩
    exact k y9 H' hy (frame_same hy hdx fr) ⟨dx, hx'⟩
  | sym g m i =>
    have hx : SqT K H t [.str "symlink", .str g, .int m, .int i] := hx
    walk_at "rd"
    refine r_iteD (fun _ => ?_) (fun h => absurd rfl h)
    walk_at "rd"
    refine ⟨rfl, fun y9 dx hy hdx ne => ⟨rfl, fun E => ⟨y9, dx, z, g, m, i, rfl, upd_same, ok.1, ok.2, fun H' fr hx' => ⟨rfl, r_nil ⟨M, ms, _, rfl, rfl, frame_same hy hdx fr _ _ gM, sz, ?_⟩⟩⟩⟩⟩
    exact k y9 H' hy (frame_same hy hdx fr) ⟨dx, hx'⟩
  | lnk g =>
    have hx : SqT K H t [.str "link", .str g] := hx
    walk_at "rd"
    refine ⟨rfl, fun y9 dx hy hdx ne => ⟨rfl, fun E => ⟨y9, dx, z, g, 420, 0, rfl, upd_same, ok.1, ok.2, fun H' fr hx' => ⟨rfl, r_nil ⟨M, ms, _, rfl, rfl, frame_same hy hdx fr _ _ gM, sz, ?_⟩⟩⟩⟩⟩
    exact k y9 H' hy (frame_same hy hdx fr) ⟨dx, hx'⟩
end
abbrev s__law_house : Stmt := topS 86
abbrev N__law_house : List Str := ["_law_tree_here", "_law_road", "_law_members", "_law_name", "_law_thing"]
theorem sc__law_house : FnScope N__law_house ["_law_tree_here", "_law_road"] (defScope s__law_house) := ⟨rfl, rfl, rfl, by decide +kernel, rfl, by decide +kernel, by decide +kernel⟩
theorem sqL_but {K : PySem.W.Frag} {H H' : Hp} {E M : Addr} {xs : List V} (ne : E ≠ M) (fr : ∀ b o, b ≠ M → H b = some o → H' b = some o) (h : SqL K H E xs) : SqL K H' E xs := by
  rcases h with h | h
  · exact .inl (h.imp (fr _ _ ne) fun ⟨o, g⟩ => ⟨o, fr _ _ ne g⟩)
  · exact .inr h
theorem tk_but {H H' : Hp} {M : Addr} {xs : List V} (gM : H M = some (.lst xs)) (fr : ∀ b o, b ≠ M → H b = some o → H' b = some o) : TK H H' :=
  ⟨fun p ys h => fr _ _ (fun e => by rw [e, gM] at h; cases h) h, fun p o ys h => fr _ _ (fun e => by rw [e, gM] at h; cases h) h⟩
theorem ins_but {c : Cs} {H H' : Hp} {M y : Addr} {m : Mem} {xs : List V} (gM : H M = some (.lst xs)) (fr : ∀ b o, b ≠ M → H b = some o → H' b = some o) (h : m.Ins c H y) : m.Ins c H' y := Mem.keepN (tk_but gM fr) (fun o ho => by
  obtain ⟨C, dx, fs, hy⟩ := Mem.ob h
  exact fr _ _ (fun e => by rw [e, gM] at hy; cases hy) ho) h
section
variable {P : Program} {w : World} {K : PySem.W.Frag} {mg : Str → Option Value} {base : Heap}
def spLHouse (K : PySem.W.Frag) (CH : Addr) : Sp := fun vs H Q _ => ∃ (B T : Addr) (r : Int) (l : LTr) (a b : Nat), vs = [.ref T, .int r] ∧ LTR H B T l ∧ TrG l a b ∧ a ≤ 60 ∧ b ≤ 4096 ∧ ∀ x h ys H', H x = none → Same H H' → HsAt K CH H' x h → ys.Perm (l.at'.map (·.1)) → sortedS ys = true → h.rows = entL l ys → Q (.ref x) H'
theorem ok_lhouse {f CH CT aM : Addr} {fd : FuncData} {k : Nat} {c : Cs} (F : Fun K "_law_house" "_law_house" s__law_house f fd) (M : MF K c aM) (m_House : mg "House" = some (.ref CH)) (c_lentries : CalT P w K mg base 5 "_law_entries" (spLEnts K)) (c_of : CMetT P w K mg base 7 CH "of" ["cls", "entries"] (spHOf K CH)) (c_unpacked : CalT P w K mg base 6 "unpacked" (spUnpd K CT CH c)) (mk0_House : Mk0T P w K mg base 2 "House" CH (spHInit CH))
    (mk_File : MakS P w K mg base 5 "File" c.F ["mode", "time"] (fun vs zs H Q => vs.length = 3 ∧ ∀ E, spFileI c.F (vs ++ zs) H Q E)) (mk_Dir : MakS P w K mg base 5 "Directory" c.D ["mode", "time"] (fun vs zs H Q => vs.length = 2 ∧ ∀ E, spDirI c.D (vs ++ zs) H Q E)) (mk_Sym : MakS P w K mg base 5 "Symlink" c.Y ["mode", "time"] (fun vs zs H Q => vs.length = 3 ∧ ∀ E, spSymI c.Y (vs ++ zs) H Q E)) (mk_LinkD : MakS P w K mg base 5 "Link" c.L [] (fun vs zs H Q => zs = [] ∧ ∀ E, spSymI c.L (vs ++ [.int 420, .int 0]) H Q E)) : FnOk P w K mg base CX0 (k + 8) f fd ["_law_tree_here", "_law_road"] (spLHouse K CH) := by
  refine F.ok sc__law_house (fun vs H Q E h => ?_) (fun cdv A outer s H vs Q E hr h => ?_)
  · obtain ⟨B, T, r, l, a, b, rfl, _⟩ := h
    rfl
  · obtain ⟨B, T, r, l, a, b, rfl, hT, g, ga, gb, q⟩ := h
    have hu := hu_of hr
    have nd := sc__law_house.nd
    refine ⟨_, (pss_cons (ps_if (pt_cmpR op_eq (pv 1) pe_int (nomark _))
        (pss_one (ps_ret (pe_cmetT c_of hr (by omega) (pe_glob (v := .ref CH) (by rfl) m_House (by first | exact rfl | exact ⟨_, rfl⟩)) (pa_cons (pe_cc c_lentries hr (by omega) (by rfl) (pa_cons (pv 0) pa_nil)) pa_nil))))
        pss_nil)
      (pss_cons (ps_set (i := 2) nd rfl (Or.inl rfl) (pe_lst pa_nil))
      (pss_cons (ps_for PassesOwn.never rfl (pi_list (pe_cc c_lentries hr (by omega) (by rfl) (pa_cons (pv 0) pa_nil))) (pg_tupK K (pg_tup rfl (pgs_cons (pg_name (i := 3) nd rfl (Or.inl rfl)) (pgs_cons (pg_name (i := 4) nd rfl (Or.inl rfl)) pgs_nil))))
        (pss_one (ps_if (pt_cmpR op_eq (pe_ix (ix_tupK K) (pv 4) pe_int (fun _ _ => rfl)) pe_str (nomark _))
        (pss_one (ps_expr (pe_bm PySem.F.plainAttrs_list PySem.F.slot_list_append PySem.F.type_list_append mt_append (pv 2) (pa_cons (pe_mks mk_File hr (by omega) (by rfl) (pa_cons (pv 3) (pa_cons (pe_ix (ix_tupK K) (pv 4) pe_int (fun _ _ => rfl)) pa_nil)) (pk_cons (pe_ix (ix_tupK K) (pv 4) pe_int (fun _ _ => rfl)) (pk_cons (pe_ix (ix_tupK K) (pv 4) pe_int (fun _ _ => rfl)) pk_nil))) pa_nil))))
        (pss_one (ps_if (pt_cmpR op_eq (pe_ix (ix_tupK K) (pv 4) pe_int (fun _ _ => rfl)) pe_str (nomark _))
        (pss_one (ps_expr (pe_bm PySem.F.plainAttrs_list PySem.F.slot_list_append PySem.F.type_list_append mt_append (pv 2) (pa_cons (pe_mks mk_Dir hr (by omega) (by rfl) (pa_cons (pv 3) pa_nil) (pk_cons (pe_ix (ix_tupK K) (pv 4) pe_int (fun _ _ => rfl)) (pk_cons (pe_ix (ix_tupK K) (pv 4) pe_int (fun _ _ => rfl)) pk_nil))) pa_nil))))
        (pss_one (ps_if (pt_cmpR op_eq (pe_ix (ix_tupK K) (pv 4) pe_int (fun _ _ => rfl)) pe_str (nomark _))
        (pss_one (ps_expr (pe_bm PySem.F.plainAttrs_list PySem.F.slot_list_append PySem.F.type_list_append mt_append (pv 2) (pa_cons (pe_mks mk_Sym hr (by omega) (by rfl) (pa_cons (pv 3) (pa_cons (pe_ix (ix_tupK K) (pv 4) pe_int (fun _ _ => rfl)) pa_nil)) (pk_cons (pe_ix (ix_tupK K) (pv 4) pe_int (fun _ _ => rfl)) (pk_cons (pe_ix (ix_tupK K) (pv 4) pe_int (fun _ _ => rfl)) pk_nil))) pa_nil))))
        (pss_one (ps_expr (pe_bm PySem.F.plainAttrs_list PySem.F.slot_list_append PySem.F.type_list_append mt_append (pv 2) (pa_cons (pe_mks mk_LinkD hr (by omega) (by rfl) (pa_cons (pv 3) (pa_cons (pe_ix (ix_tupK K) (pv 4) pe_int (fun _ _ => rfl)) pa_nil)) pk_nil) pa_nil)))))))))))
      (pss_one (ps_ret (pe_cc c_unpacked hr (by omega) (by rfl) (pa_cons (pe_mk0 mk0_House hr (by omega) (by rfl)) (pa_cons (pv 2) pa_nil)))))))), ?_⟩
    have ET : EntT l := g.ent (by omega) (by omega)
    have few := g.few
    walk_at "rd"
    refine r_iteD (fun _ => ?_) (fun _ => ?_)
    · walk_at "rd"
      refine ⟨rfl, ?_⟩
      walk_at "rd"
      refine ⟨B, T, l, rfl, hT, ET, fun E ys H1 hE hp hs e1 hEL => ?_⟩
      have hl : (entL l ys).length < 64 := by
        have h1 := hp.length_eq
        unfold entL
        rw [List.length_map] at h1 ⊢
        omega
      refine ⟨E, entL l ys, rfl, hEL, hl, entL_ok g.p ET hp, fun ys' x H2 hp' hs' hx e2 hN => ?_⟩
      rw [entL_keys] at hp'
      have ey : ys' = ys := sorted_one (sorted_le hs') (sorted_le hs) hp'
      subst ey
      exact q x _ ys' H2 (e1.free hx) (e1.trans e2) hN.at hp hs (entL_rows g.p ET hp)
    · walk_at "rd"
      rename_i M hM
      have eM := same_new (o := HO.lst []) hM
      have gM0 : upd H M (.lst []) M = some (.lst []) := upd_same
      generalize upd H M (.lst []) = H0 at eM gM0 ⊢
      refine ⟨B, T, l, rfl, hT.same eM, ET, fun E ys H1 hE hp hs e1 hEL => ?_⟩
      have nEM : E ≠ M := (ne_of_none gM0 hE).symm
      have gM1 := e1 _ _ gM0
      have E1 := eM.trans e1
      obtain ⟨es, hes, hpe⟩ := hEL
      have hl : ys.length < 64 := by
        have h1 := hp.length_eq
        rw [List.length_map] at h1
        omega
      have el : (entL l ys).length = ys.length := by unfold entL; rw [List.length_map]
      refine ⟨E, rfl, ⟨es, hes⟩, ?_⟩
      refine for_it (walk_list (xs := es)) (fun i σ H' => ∃ v3 v4 ms, σ = [some (.ref T), some (.int r), some (.ref M), v3, v4] ∧ (∀ b o, b ≠ M → H1 b = some o → H' b = some o) ∧ H' M = some (.lst ms) ∧ MemsAt c H' ms ((memL (entL l ys)).take i)) ?_ (fun i σ H' _ ⟨_, _, _, _, fr, _⟩ => sqL_but nEM fr hes) ?_ ?_
      · exact ⟨none, none, [], rfl, (fun _ _ _ h => h), gM1, .nil⟩
      · rintro i v σ Hc H' hi ⟨v3, v4, ms, rfl, fr, gM, hms⟩ ⟨rfl, hv⟩
        obtain ⟨⟨z, x⟩, hx, hen⟩ := paired_at hpe hv
        obtain ⟨e9, u9, rfl, he9, hu9⟩ := hen.tk (tk_but gM1 fr)
        obtain ⟨t9, rfl, ht9⟩ := hu9
        dsimp only at he9 ht9
        have hil : i < ys.length := by
          obtain ⟨hlt, _⟩ := List.getElem?_eq_some_iff.mp hx
          omega
        have hmi : (memL (entL l ys))[i]? = some (memR z x) := by unfold memL; rw [List.getElem?_map, hx]; rfl
        obtain ⟨z', hz', hzr⟩ := memL_at hmi
        have hok : (memR z x).Ok := by rw [hzr]; exact memR_ok g.p ET hp (List.mem_of_getElem? hz')
        have mlen : ms.length = i := by rw [Paired.length hms, List.length_take, memL_len]; omega
        refine (show gTup K 2 (gCons (gName 3) (gCons (gName 4) gNil)) (V.ref e9) _ H' (fun σ2 H2 => hTn K c _ σ2 H2) from ?_)
        refine r_gtup he9 rfl (r_gcons (r_gname (r_gcons (r_gname (r_gnil ?_)))))
        refine (show hTn K c _ (hSl T M t9 r z) H' from ok_hTn ht9 hok gM (by omega) fun y H5 hy e5 hin => ?_)
        refine ⟨_, _, ms ++ [.ref y], rfl, fun b o nb h => by rw [upd_ne nb]; exact e5 _ _ (fr _ _ nb h), upd_same, ?_⟩
        have gM5 := e5 _ _ gM
        have fr5 : ∀ b o, b ≠ M → H5 b = some o → upd H5 M (.lst (ms ++ [.ref y])) b = some o := fun b o nb h => by rw [upd_ne nb]; exact h
        rw [take_snoc hmi]
        exact paired_snoc (Paired.mapP hms fun v m ⟨y, h1, h2⟩ => ⟨y, h1, ins_but gM5 fr5 (h2.same e5)⟩) ⟨y, rfl, ins_but gM5 fr5 hin⟩
      · rintro σ Hc ⟨v3, v4, ms, rfl, fr, gM, hms⟩
        rw [List.take_of_length_le (by rw [memL_len, Paired.length hpe, el]; exact Nat.le_refl _)] at hms
        walk_at "rd"
        refine ok_newHs fun x dx R T9 F9 H6 hx hT9 hF9 nTF e6 gx gR gT6 gF6 => ?_
        walk_at "rd"
        have h0 : HsAt K CH H6 x ⟨[], [], []⟩ := ⟨dx, R, T9, F9, [], [], [], gx, gR, .nil, gT6, .nil, gF6, .nil, nTF⟩
        obtain ⟨f1, f2, f3⟩ := memL_house g.p ET hp hs
        refine ⟨x, M, ⟨[], [], []⟩, ms, memL (entL l ys), rfl, h0, List.nodup_nil, List.nodup_nil, Nat.zero_le _, Nat.zero_le _, SqL.of (e6 _ _ gM), Paired.mapP hms fun v m ⟨y, h1, h2⟩ => ⟨y, h1, h2.same e6⟩, f1, f2, fun ys' z H7 hp' hs' hz e7 hN => ?_⟩
        have old : ∀ b o, H b = some o → H7 b = some o := fun b o h => e7 _ _ (e6 _ _ (fr _ _ (ne_of_none h hM) (E1 _ _ h)))
        have fz : H z = none := by
          cases e : H z with
          | none => rfl
          | some o =>
            rw [e6 _ _ (fr _ _ (ne_of_none e hM) (E1 _ _ e))] at hz
            cases hz
        have hN' : HsNw K CH H6 H7 z (hsOf (putAll ⟨[], [], 0⟩ (memL (entL l ys))).things (putAll ⟨[], [], 0⟩ (memL (entL l ys))).marks ys') := hN
        exact q z _ ys H7 fz old hN'.at hp hs (f3 ys' hp' hs')
end
abbrev s_House_entries : Stmt := inClass (topS 48) 4
abbrev N_House_entries : List Str := ["self"]
theorem sc_House_entries : FnScope N_House_entries ["self"] (defScope s_House_entries) := ⟨rfl, rfl, rfl, by decide +kernel, rfl, by decide +kernel, by decide +kernel⟩
/-! ### entries of a house; != [] -/
def rNeE : R2 := fun x y H Q => ∃ a b xs, x = .ref a ∧ y = .ref b ∧ H a = some (.lst xs) ∧ H b = some (.lst []) ∧ Q (.bl (!xs.isEmpty)) H
theorem op_neE {X : Cx} (hu : X.A.units < cLine) : OpR X (compareOp .NotEq) rNeE := by
  intro pins s σ H x y v u Q I rx ry hq
  obtain ⟨a, b, xs, rfl, rfl, ha, hb, q⟩ := hq
  cases (show v = Value.ref a from rx)
  cases (show u = Value.ref b from ry)
  obtain ⟨z, its, k, r, e⟩ := I.hok a _ ha
  obtain ⟨z2, its2, k2, r2, e2⟩ := I.hok b _ hb
  have l2 : its2.length = 0 := by rw [← r2.length]; rfl
  show wpAny (model X.prog X.w) X.A (richCompare .NotEq (.ref a) (.ref b)) (EP X pins σ Q) X.xe s
  cases xs with
  | nil =>
    have l1 : its.length = 0 := by rw [← r.length]; rfl
    refine GQ.rc_neListB (N := 0) hu (fun _ => true) (fun _ s' => s' = s) (fun i s' q => ?_) (fun j s' q2 => ?_) rfl
    · subst q
      exact ⟨its.toArray, its2.toArray, k, k2, e, e2, by rw [List.size_toArray, l1], by rw [List.size_toArray, l2], fun h1 _ => absurd h1 (by rw [List.size_toArray, l1]; exact Nat.not_lt_zero _)⟩
    · subst q2
      exact ⟨.bl false, H, I, rfl, q⟩
  | cons y ys =>
    refine GQ.rc_neListL hu (by rw [List.size_toArray, List.size_toArray, l2, ← r.length]; rfl) e e2 ?_
    exact ⟨.bl true, H, I, rfl, q⟩
section
variable {P : Program} {w : World} {K : PySem.W.Frag} {mg : Str → Option Value} {base : Heap}
def spHEnts (C : Addr) (K : PySem.W.Frag) : Sp := fun vs H Q _ => ∃ (x : Addr) (h : Hs), vs = [.ref x] ∧ HsAt K C H x h ∧ ∀ E vs H', H E = none → Same H H' → H' E = some (.lst vs) → Paired (EntAt K H') vs h.rows → Q (.ref E) H'
theorem ok_hents {f C : Addr} {fd : FuncData} {k : Nat} (F : Fun K "entries" "House.entries" s_House_entries f fd) (hc : HsC K C) (m1 : mg "list" = none) : FnOk P w K mg base CX0 (k + 2) f fd ["self"] (spHEnts C K) := by
  refine F.ok sc_House_entries (fun vs H Q E h => ?_) (fun cdv A outer s H vs Q E hr h => ?_)
  · obtain ⟨x, h, rfl, _⟩ := h
    rfl
  · obtain ⟨x, h, rfl, ⟨dx, R, T, F1, vs, ps, qs, g⟩, q⟩ := h
    have hu := hu_of hr
    have nd := sc_House_entries.nd
    refine ⟨_, (pss_one (ps_ret (pe_callTy (call_listK K) (by rfl) (by assumption) (by decide +kernel) (pa_cons (pe_fldN K (pv 0)) pa_nil)))), ?_⟩
    walk_at "rd"
    refine r_fldE g.ob hc.cl hc.rows rfl ?_
    walk_at "rd"
    refine ⟨R, vs, rfl, .inr (SqT.of g.r), fun E hE => ?_⟩
    have e := same_new (o := HO.lst vs) hE
    exact q E vs _ hE e upd_same (Paired.mapP g.pr fun _ _ y => y.same e)
end
/-! ### the law: the paths with files, and one more of them -/
theorem paired_at' {α β : Type} {R : α → β → Prop} : ∀ {xs : List α} {ys : List β} {i : Nat} {x : α}, Paired R xs ys → xs[i]? = some x → ∃ y, ys[i]? = some y ∧ R x y
  | _, _, _, _, .nil, h => by cases h
  | _, _, 0, _, .cons h r, e => by
    cases Option.some.inj e
    exact ⟨_, rfl, h⟩
  | _, _, i + 1, _, .cons h r, e => by
    obtain ⟨y, h1, h2⟩ := paired_at' r (i := i) e
    exact ⟨y, h1, h2⟩
theorem tk_src {H H' : Hp} {a : Addr} (hs : Src H a) (b : But a H H') : TK H H' := by
  obtain ⟨i, j, k, hk, _⟩ := hs
  exact ⟨fun p xs h => b _ _ (fun e => by rw [e, hk] at h; cases h) h, fun p o xs h => b _ _ (fun e => by rw [e, hk] at h; cases h) h⟩
theorem HsAt.but {K : PySem.W.Frag} {C a x : Addr} {H H' : Hp} {h : Hs} (hs : Src H a) (b : But a H H') (g : HsAt K C H x h) : HsAt K C H' x h := by
  have tk := tk_src hs b
  obtain ⟨dx, R, T, F, vs, ps, qs, g⟩ := g
  obtain ⟨i, j, k, hk, _⟩ := hs
  have ne : ∀ {p o}, H p = some o → (∀ xs, o ≠ .lst xs) → p ≠ a := fun h n e => by rw [e, hk] at h; exact n _ (Option.some.inj h).symm
  exact ⟨dx, R, T, F, vs, ps, qs, b _ _ (ne g.ob fun _ => nofun) g.ob, b _ _ (ne g.r fun _ => nofun) g.r, Paired.mapP g.pr fun _ _ y => y.tk tk, b _ _ (ne g.t fun _ => nofun) g.t, g.pt.mono fun _ _ y => y.tk tk, b _ _ (ne g.f fun _ => nofun) g.f, g.pf, g.ne⟩
theorem LTK.same {H H' : Hp} {T : Addr} {l : LTr} (e : Same H H') (h : LTK H T l) : LTK H' T l := by
  obtain ⟨A, F, ps, h1, h2, h3⟩ := h
  exact ⟨A, F, ps, e _ _ h1, h2.imp (e _ _) fun ⟨o, h⟩ => ⟨o, e _ _ h⟩, h3.mono fun _ _ y => y.same e⟩
def lS (a s T : Addr) (i j : V) (v5 v6 v7 v8 v9 v10 v11 v12 v13 : Option V) : L2.St := [some (.ref a), some i, some (.ref s), some j, some (.ref T), v5, v6, v7, v8, v9, v10, v11, v12, v13]
def xDr (n : Int) : TE := tCall spDraw [] E0 (tCons (tVar 2) (tCons (tC (V.int n)) tNil))
def xShr : TE := tLockE (tLc (iKeys (tDGet (tVar 4) (tC (V.str (Str.ofString "at"))))) (gName 12) (tTest (tOp rEq (tCall spLKind [] E0 (tCons (tVar 4) (tCons (tVar 12) tNil))) (tC (V.str (Str.ofString "file"))))) (tVar 12) [12])
def sZy (K : PySem.W.Frag) : TS := tIfS (tTest (tOp rNeE (tVar 6) (tLst tNil))) (sDPut (tVar 5) (tC (V.str (Str.ofString "zy"))) (tDGet (tVar 5) (tOp (rIxL K) (tVar 6) (tCall spDraw [] E0 (tCons (tVar 2) (tCons (tCB (rLenQ K) (tCons (tVar 6) tNil)) tNil)))))) tNext
section
variable {K : PySem.W.Frag} {D : Ends} {H : Hp} {a s T A F L : Addr} {i j : V} {v5 v6 v7 v8 v9 v10 v11 v12 v13 : Option V} {ps : List (Key × V)} {vs : List V} {l : LTr} {u : Nat}
theorem ok_xShr {Q : VK} {B : Addr} (g : LTI H B T A F ps vs l) (few : ps.length ≤ 60) (q : ∀ (L : Addr) (zs : List Str) H', H L = none → Same H H' → H' L = some (.lst (zs.map V.str)) → zs.length ≤ 60 → (∀ z ∈ zs, ∃ i, look l.at' z = some (.fil i)) → Q (.ref L) H') : xShr (lS a s T i j v5 v6 v7 v8 v9 v10 v11 v12 v13) H Q := by
  unfold xShr tLockE lS
  refine ⟨A, .dK ps, g.ad, True.intro, fun od => ?_⟩
  have gl : upd H A (.frz od (.dK ps)) A = some (.frz od (.dK ps)) := upd_same
  have gT : upd H A (.frz od (.dK ps)) T = some (.dK [(Sum.inr "at", .ref A), (Sum.inr "files", .ref F)]) := by rw [upd_ne g.ta]; exact g.tr
  have gk : LTK (upd H A (.frz od (.dK ps))) T l := ⟨A, F, ps, gT, .inr ⟨od, gl⟩, g.at'.mono fun _ _ y => y.dk g.ad⟩
  have fr : ∀ b o, b ≠ A → H b = some o → upd H A (.frz od (.dK ps)) b = some o := fun b o n h => by rw [upd_ne n]; exact h
  have back : ∀ b, b ≠ A → upd H A (.frz od (.dK ps)) b = none → H b = none := fun b n h => by rw [upd_ne n] at h; exact h
  generalize upd H A (.frz od (.dK ps)) = G at gl gT gk fr back ⊢
  unfold iKeys
  walk_at "rd"
  refine ⟨T, .ref A, rfl, .inl ⟨_, Sum.inr "at", .inl gT, rfl, rfl⟩, ?_⟩
  refine ⟨A, od, rfl, .inl ⟨ps, gl, ?_⟩⟩
  intro E hE
  refine lc_it walk_keys (fun i H2 => Same G H2 ∧ ∃ zs : List Str, H2 E = some (.lst (zs.map V.str)) ∧ zs.length ≤ i ∧ ∀ z ∈ zs, ∃ i, look l.at' z = some (.fil i)) ⟨same_new hE, [], upd_same, Nat.le_refl _, (fun _ h => nomatch h)⟩ (fun i H2 _ ⟨e, _⟩ => e _ _ gl) ?_ ?_
  · rintro n v Hc2 H2 hj ⟨e2, zs, hb2, hl2, hz2⟩ ⟨rfl, kk, v9, hv2, rfl⟩
    obtain ⟨⟨z2, x2⟩, hx2, hk2, hy2⟩ := paired_at' g.at' hv2
    dsimp only at hk2 hy2
    subst hk2
    have hn : n < 60 := by
      obtain ⟨hlt, _⟩ := List.getElem?_eq_some_iff.mp hv2
      omega
    walk_at "rd"
    refine ⟨rfl, ?_⟩
    walk_at "rd"
    refine sp_lkindK (z := z2) (gk.same e2) fun H3 e3 => ?_
    have e4 := e2.trans e3
    have hb3 := e3 _ _ hb2
    walk_at "rd"
    by_cases hk : kindL l z2 = "file"
    · rw [if_pos (decide_eq_true (congrArg V.str hk))]
      walk_at "rd"
      refine ⟨_, hb3, Nat.lt_of_le_of_lt (by rw [List.length_map]; omega : _ ≤ 60) (by decide), fun b o h => by rw [upd_ne (ne_of_none h hE)]; exact e4 _ _ h, zs ++ [z2], by rw [upd_same, List.map_append]; rfl, by rw [List.length_append]; show zs.length + 1 ≤ n + 1; omega, fun z hz => (List.mem_append.mp hz).elim (hz2 z) fun h => by rw [List.mem_singleton.mp h]; exact kindL_file hk⟩
    · rw [if_neg (by rw [decide_eq_true_iff]; exact fun h => hk (V.str.inj h))]
      exact ⟨e4, zs, hb3, by omega, hz2⟩
  · rintro H3 ⟨e3, zs, hb3, hl3, hz3⟩
    have nE : E ≠ A := fun h => by rw [h, gl] at hE; cases hE
    refine ⟨e3 _ _ gl, q E zs _ (back E nE hE) (fun b o h => ?_) (by rw [upd_ne nE]; exact hb3) (by omega) hz3⟩
    by_cases nb : b = A
    · subst nb
      rw [g.ad] at h
      cases h
      exact upd_same
    · rw [upd_ne nb]
      exact e3 _ _ (fr _ _ nb h)
/-- what the tree becomes -/
theorem ok_sZy {zs : List Str} (hA : v5 = some (.ref A)) (hL : v6 = some (.ref L)) (g : LTI H s T A F ps vs l) (hs : SrcB u H s) (hu : u ≤ 800000) (G : TrG l 40 4000) (gL : H L = some (.lst (zs.map V.str))) (nL : L ≠ s) (lz : zs.length ≤ 60) (hz : ∀ z ∈ zs, ∃ i, look l.at' z = some (.fil i))
    (k : ∀ H' ps' l', LTI H' s T A F ps' vs l' → TrG l' 41 4000 → l'.files = l.files → SrcB (u + 1) H' s → (∀ b o, b ≠ s → b ≠ A → H b = some o → H' b = some o) → D.nx (lS a s T i j v5 v6 v7 v8 v9 v10 v11 v12 v13) H') : sZy K D (lS a s T i j v5 v6 v7 v8 v9 v10 v11 v12 v13) H := by
  subst hA hL
  have pl : ps.length ≤ 40 := by rw [g.at'.len]; exact G.few
  unfold sZy lS
  walk_at "rd"
  rename_i p hp
  refine ⟨L, _, _, rfl, rfl, upd_old hp gL, upd_same, ?_⟩
  have e1 := same_new (o := HO.lst []) hp
  have g1 := g.same e1
  have s1 := hs.same e1
  have gL1 := e1 _ _ gL
  have f1 : ∀ b o, H b = some o → upd H p (.lst []) b = some o := e1
  generalize upd H p (.lst []) = H1 at g1 s1 gL1 f1 ⊢
  cases zs with
  | nil =>
    walk_at "rd"
    obtain ⟨x1, x2, x3, x4, x5⟩ := s1
    exact k _ _ _ g1 (G.mono (by decide) (Nat.le_refl _)) rfl (SrcB.mono ⟨x1, x2, x3, x4, x5⟩ (by omega)) fun b o _ _ h => f1 _ _ h
  | cons z0 zs =>
    refine ⟨true, rfl, ?_⟩
    rw [if_pos rfl]
    walk_at "rd"
    refine sp_draw s1 (by omega) (by rw [List.length_map, List.length_cons]; omega) (by rw [List.length_map]; omega) fun d H2 d0 d1 s2 b2 => ?_
    obtain ⟨v, hv, hat⟩ := pick_at (xs := (z0 :: zs).map V.str) d0 d1
    obtain ⟨z, hzm, rfl⟩ := List.mem_map.mp hv
    obtain ⟨n, hn⟩ := hz z hzm
    have g2 := g1.but s1.src b2
    refine r_ixL (SqL.of (b2 _ _ nL gL1)) hat ?_
    walk_at "rd"
    rcases g2.at'.get (z := z) with ⟨_, h2⟩ | ⟨v, x, h1, h2, t, rfl, ht⟩
    · rw [h2] at hn; cases hn
    rw [hn] at h2
    cases h2
    refine ⟨A, .ref t, rfl, .inl ⟨ps, Sum.inr z, .inl g2.ad, rfl, h1.symm⟩, ?_⟩
    walk_at "rd"
    refine ⟨A, _, rfl, DPut.k (k := Sum.inr "zy") g2.ad (Nat.lt_of_le_of_lt pl (by decide)), ?_⟩
    have sA : A ≠ s := fun e => by obtain ⟨x1, x2, x3, x4, x5⟩ := hs; rw [← e, g.ad] at x4; cases x4
    refine k _ _ _ (g2.putA (x := .fil n) ⟨t, rfl, ht⟩) (G.put0 (x := .fil n) path_zy True.intro (fun p hp => by rw [above_one zy_tl.1] at hp; cases hp) (.inr fun z y hz => PathD.lone (G.p.key _ _ hz).1 zy_tl.1 zy_tl.2) rfl (fun j e => by cases e; exact G.ix _ _ hn)) rfl ?_ fun b o nb nA h => by rw [upd_ne nA]; exact b2 _ _ nb (f1 _ _ h)
    obtain ⟨x1, x2, x3, x4, x5⟩ := s2
    exact ⟨x1, x2, x3, by rw [upd_ne sA.symm]; exact x4, x5⟩
end
/-! ### the law: one near tree -/
def oEq (P : Program) (w : World) (K : PySem.W.Frag) (mg : Str → Option Value) (base : Heap) (i j : Nat) : TE := tOp (rOwnV P w K mg base 4 id) (tVar i) (tVar j)
def oNe (P : Program) (w : World) (K : PySem.W.Frag) (mg : Str → Option Value) (base : Heap) (i j : Nat) : TE := tOp (rOwnV P w K mg base 4 not) (tVar i) (tVar j)
def bNear : TS := tAsg (tCall spNear [] E0 (tCons (tVar 2) (tCons (tVar 4) tNil))) (gName 9)
def bTwin (K : PySem.W.Frag) (CH : Addr) : TS := tAsg (tCall (spLHouse K CH) [] E0 (tCons (tVar 9) (tCons (xDr 2) tNil))) (gName 10)
def bSame (K : PySem.W.Frag) : TS := tAsg (tOp (rEqAL K (ARow K)) (tCall (spLEnts K) [] E0 (tCons (tVar 4) tNil)) (tCall (spLEnts K) [] E0 (tCons (tVar 9) tNil))) (gName 11)
def bTest (P : Program) (w : World) (K : PySem.W.Frag) (mg : Str → Option Value) (base : Heap) : TS := tIfS (tOr (tTest (tOp rNe (oEq P w K mg base 7 10) (tVar 11))) (tOr (tTest (tOp rEq (oNe P w K mg base 7 10) (tVar 11))) (tTest (tOp rNe (oEq P w K mg base 10 7) (tVar 11))))) (tRet (tC (V.bl false))) tNext
def bMore (P : Program) (w : World) (K : PySem.W.Frag) (mg : Str → Option Value) (base : Heap) (CH : Addr) : TS := tSeq bNear (tSeq (bTwin K CH) (tSeq (bSame K) (bTest P w K mg base)))
section
variable {P : Program} {w : World} {K : PySem.W.Frag} {mg : Str → Option Value} {base : Heap} {CH : Addr} {D : Ends} {H : Hp} {a s T x : Addr} {i j : V} {v5 v6 v7 v8 v9 v10 v11 v12 v13 : Option V} {l : LTr} {u : Nat} {h : Hs} {ys : List Str}
theorem own_ans {neg : Bool → Bool} {x y : Addr} {h g : Hs} {Q : VK} {H : Hp} (hc : HsC K CH) (hi : InsF K CH) (eqHs : EqT P w K mg base 4 CH (RHsB K CH)) (hx : HsAt K CH H x h) (hy : HsAt K CH H y g) (q : ∀ H', Same H H' → Q (.bl (neg (decide (h.rows = g.rows)))) H') : rOwnV P w K mg base 4 neg (.ref x) (.ref y) H Q := by
  obtain ⟨dx, R, T9, F9, vs9, ps9, qs9, gH⟩ := id hx
  obtain ⟨dx2, R2, T8, F8, vs8, ps8, qs8, gH2⟩ := id hy
  exact ⟨CH, _, x, dx, _, .ref CH, _, eqHs, rfl, gH.ob, .base (.ins gH2.ob hc.cl hi.ha hi.hn hi.htk hi.hm), by simp [PySem.W.notFirst], .inr ⟨y, rfl, h, g, hx, hy, rfl⟩, q⟩
theorem ok_bMore (hc : HsC K CH) (hi : InsF K CH) (eqHs : EqT P w K mg base 4 CH (RHsB K CH)) (hT : LTR H s T l) (G : TrG l 50 4000) (gf : l.files.length ≤ 99) (h7 : v7 = some (.ref x)) (hx : HsAt K CH H x h) (hp : ys.Perm (l.at'.map (·.1))) (hso : sortedS ys = true) (hr : h.rows = entL l ys) (hs : SrcB u H s) (hu : u ≤ 700000)
    (k : ∀ H' w9 w10 w11, SrcB (u + 3) H' s → But s H H' → D.nx (lS a s T i j v5 v6 v7 v8 w9 w10 w11 v12 v13) H') : bMore P w K mg base CH D (lS a s T i j v5 v6 v7 v8 v9 v10 v11 v12 v13) H := by
  subst h7
  unfold bMore
  refine r_seq ?_
  unfold bNear lS
  walk_at "rd"
  refine sp_near hs (by omega) hT G gf fun T' l' H1 n1 hT' G' s1 b1 => ?_
  have hT1 := hT.but hs.src b1
  have hx1 := hx.but hs.src b1
  walk_at "rd"
  unfold bTwin xDr
  walk_at "rd"
  refine sp_draw s1 (by omega) (by decide) (by decide) fun d H2 d0 d1 s2 b2 => ?_
  have hT2 := hT1.but s1.src b2
  have hT2' := hT'.but s1.src b2
  have hx2 := hx1.but s1.src b2
  walk_at "rd"
  refine ⟨s, T', d, l', 51, 4001, rfl, hT2', G', by decide, by decide, fun y h' ys' H3 n3 e3 hy hp' hso' hr' => ?_⟩
  have hT3 := hT2.same e3
  have hT3' := hT2'.same e3
  have hx3 := hx2.same e3
  have s3 := s2.same e3
  have b3 := (b1.trans b2).trans (Same.but e3)
  unfold bSame
  walk_at "rd"
  refine ⟨s, T, l, rfl, hT3, G.ent (by decide) (by decide), fun E1 zs1 H4 nE1 hp4 hs4 e4 hE1 => ?_⟩
  walk_at "rd"
  refine ⟨s, T', l', rfl, hT3'.same e4, G'.ent (by decide) (by decide), fun E2 zs2 H5 nE2 hp5 hs5 e5 hE2 => ?_⟩
  have z1 : zs1 = ys := sorted_one (sorted_le hs4) (sorted_le hso) (hp4.trans hp.symm)
  have z2 : zs2 = ys' := sorted_one (sorted_le hs5) (sorted_le hso') (hp5.trans hp'.symm)
  subst z1 z2
  obtain ⟨vs1, hv1, pe1⟩ := hE1
  obtain ⟨vs2, hv2, pe2⟩ := hE2
  obtain ⟨d1', d2'⟩ := rows_ans (Paired.mapP pe1 fun _ _ y => y.same e5) pe2
  refine (show rEqAL K (ARow K) (.ref E1) (.ref E2) H5 _ from ⟨E1, E2, vs1, vs2, _, rfl, rfl, e5.seq hv1, hv2, d1', ?_⟩)
  rw [d2']
  have hx5 := (hx3.same e4).same e5
  have hy5 := (hy.same e4).same e5
  have s5 := (s3.same e4).same e5
  have b5 := (b3.trans (Same.but e4)).trans (Same.but e5)
  walk_at "rd"
  unfold bTest oEq oNe
  walk_at "rd"
  refine own_ans hc hi eqHs hx5 hy5 fun H6 e6 => ?_
  rw [hr, hr']
  have sym : decide (entL l' zs2 = entL l zs1) = decide (entL l zs1 = entL l' zs2) := decide_eq_decide.mpr ⟨Eq.symm, Eq.symm⟩
  obtain ⟨r, hr0⟩ : ∃ r, decide (entL l zs1 = entL l' zs2) = r := ⟨_, rfl⟩
  rw [hr0] at sym ⊢
  walk_at "rd"
  rw [if_neg (by simp)]
  walk_at "rd"
  refine own_ans hc hi eqHs (hx5.same e6) (hy5.same e6) fun H7 e7 => ?_
  rw [hr, hr', hr0]
  walk_at "rd"
  rw [if_neg (show ¬ decide (V.bl (!r) = V.bl r) = true by cases r <;> decide)]
  walk_at "rd"
  refine own_ans hc hi eqHs ((hy5.same e6).same e7) ((hx5.same e6).same e7) fun H8 e8 => ?_
  rw [hr, hr', sym]
  walk_at "rd"
  rw [if_neg (by simp)]
  walk_at "rd"
  have E8 := (e6.trans e7).trans e8
  exact k _ _ _ _ (((s5.same E8)).mono (by omega)) (b5.trans (Same.but E8))
end
/-! ### the law: other values, and the house itself -/
/-- how instances of C stand to values of other types -/
structure OthF (K : PySem.W.Frag) (C : Addr) : Prop where
  nN : PySem.W.notFirst K C (.type "NoneType") = true
  nL : PySem.W.notFirst K C (.type "list") = true
  nI : PySem.W.notFirst K C (.type "int") = true
  nS : PySem.W.notFirst K C (.type "str") = true
  kN : PySem.W.kitOne K (.type "NoneType") (.ref C) = some false
  kL : PySem.W.kitOne K (.type "list") (.ref C) = some false
  kI : PySem.W.kitOne K (.type "int") (.ref C) = some false
  kS : PySem.W.kitOne K (.type "str") (.ref C) = some false
def cAny (P : Program) (w : World) (K : PySem.W.Frag) (mg : Str → Option Value) (base : Heap) (CH : Addr) : TS := tIfS (tB (tCB (rAny K) (tCons (tLc (iList K (tLst (tCons (tC V.non) (tCons (tMeth CH (Str.ofString "entries") (spHEnts CH K) [] E0 (tVar 7) tNil) (tCons (tCB (rLenO CH (spHLen CH K)) (tCons (tVar 7) tNil)) (tCons (tC (V.str (Str.ofString "house"))) tNil)))))) (gName 13) tYes (tOp (rOwnV P w K mg base 4 id) (tVar 7) (tVar 13)) [13]) tNil))) (tRet (tC (V.bl false))) tNext
def cSelf (P : Program) (w : World) (K : PySem.W.Frag) (mg : Str → Option Value) (base : Heap) : TS := tIfS (tOr (tTest (oNe P w K mg base 7 7)) (tNot (tTest (oEq P w K mg base 7 7)))) (tRet (tC (V.bl false))) tNext
section
variable {P : Program} {w : World} {K : PySem.W.Frag} {mg : Str → Option Value} {base : Heap} {CH : Addr} {D : Ends} {H : Hp} {a s T x : Addr} {i j : V} {v5 v6 v7 v8 v9 v10 v11 v12 v13 : Option V} {h : Hs}
theorem ok_cSelf (hc : HsC K CH) (hi : InsF K CH) (eqHs : EqT P w K mg base 4 CH (RHsB K CH)) (h7 : v7 = some (.ref x)) (hx : HsAt K CH H x h) (k : ∀ H', Same H H' → D.nx (lS a s T i j v5 v6 v7 v8 v9 v10 v11 v12 v13) H') : cSelf P w K mg base D (lS a s T i j v5 v6 v7 v8 v9 v10 v11 v12 v13) H := by
  subst h7
  unfold cSelf oEq oNe lS
  walk_at "rd"
  refine own_ans hc hi eqHs hx hx fun H1 e1 => ?_
  rw [decide_eq_true rfl]
  walk_at "rd"
  refine own_ans hc hi eqHs (hx.same e1) (hx.same e1) fun H2 e2 => ?_
  rw [decide_eq_true rfl]
  walk_at "rd"
  exact k _ (e1.trans e2)
theorem ok_cAny (hc : HsC K CH) (ho : OthF K CH) (eqHs : EqT P w K mg base 4 CH (RHsB K CH)) (h7 : v7 = some (.ref x)) (hx : HsAt K CH H x h) (hl : h.rows.length ≤ 100) (k : ∀ H', Same H H' → D.nx (lS a s T i j v5 v6 v7 v8 v9 v10 v11 v12 v13) H') : cAny P w K mg base CH D (lS a s T i j v5 v6 v7 v8 v9 v10 v11 v12 v13) H := by
  subst h7
  obtain ⟨dx, R, T9, F9, vs9, ps9, qs9, gH⟩ := id hx
  unfold cAny lS
  walk_at "rd"
  refine r_meth ?_
  walk_at "rd"
  refine ⟨x, dx, _, rfl, gH.ob, rfl, ?_⟩
  walk_at "rd"
  refine ⟨x, h, rfl, hx, fun E vs H1 nE e1 gE _ => ?_⟩
  have hx1 := hx.same e1
  walk_at "rd"
  refine ⟨x, dx, _, rfl, e1 _ _ gH.ob, fun E9 => ⟨x, h, rfl, hx1, h.rows.length, rfl, by omega, ?_⟩⟩
  walk_at "rd"
  rename_i p hp
  have e2 := same_new (o := HO.lst [V.non, V.ref E, V.int (h.rows.length : Nat), V.str "house"]) hp
  have gp : upd H1 p (.lst [V.non, V.ref E, V.int (h.rows.length : Nat), V.str "house"]) p = some (.lst [V.non, V.ref E, V.int (h.rows.length : Nat), V.str "house"]) := upd_same
  have hx2 := hx1.same e2
  have gE2 := e2 _ _ gE
  have E2 := e1.trans e2
  generalize upd H1 p (.lst [V.non, V.ref E, V.int (h.rows.length : Nat), V.str "house"]) = H2 at gp hx2 gE2 E2 ⊢
  intro D9 hD
  refine lc_map (cs := [V.non, V.ref E, V.int (h.rows.length : Nat), V.str "house"]) (enc := id) (f := fun _ => V.bl false) walk_list hD (Nat.le_of_ble_eq_true rfl) (fun H' e => SqL.of (e _ _ gp)) (fun x => rfl) ?_ ?_
  · intro z hz H' e Q' k'
    walk_at "rd"
    obtain ⟨dx', R', T', F', vs', ps', qs', gH'⟩ := hx2.same e
    have gen : ∀ t, TyX K H' z t → PySem.W.notFirst K CH t = true → PySem.W.kitOne K t (.ref CH) = some false → rOwnV P w K mg base 4 id (.ref x) z H' Q' := fun t h1 h2 h3 => ⟨CH, _, x, dx', _, t, false, eqHs, rfl, gH'.ob, h1, h2, .inl ⟨h3, rfl⟩, fun H'' e' => k' _ e'⟩
    simp only [List.mem_cons, List.not_mem_nil, or_false] at hz
    rcases hz with rfl | rfl | rfl | rfl
    · exact gen _ (.base .non) ho.nN ho.kN
    · exact gen _ (.base (.lst (e _ _ gE2))) ho.nL ho.kL
    · exact gen _ (.base (.int _)) ho.nI ho.kI
    · exact gen _ (.base (.str _)) ho.nS ho.kS
  · intro H' e hl'
    walk_at "rd"
    refine r_any (bs := [false, false, false, false]) (SqL.of hl') ?_
    walk_at "rd"
    exact k _ (E2.trans e)
end
/-! ### the law: a turn -/
theorem treeL_f {ms : List Mem} (h : ∀ m ∈ ms, m.Ok ∧ m.Two ∧ PathD m.nm) : (treeL ms).files.length ≤ ms.length := by
  obtain ⟨s, sl⟩ := Sml.fold (l := ⟨[], []⟩) ⟨fun _ h => by cases h⟩ h
  have sl : (treeL ms).files.length ≤ 0 + ms.length := sl
  omega
def FrS (s : Addr) (H H' : Hp) : Prop := ∀ b o, b ≠ s → (∀ kv, o ≠ .dK kv) → H b = some o → H' b = some o
theorem FrS.refl {s : Addr} {H : Hp} : FrS s H H := fun _ _ _ _ h => h
theorem FrS.trans {s : Addr} {H H' H2 : Hp} (h : FrS s H H') (g : FrS s H' H2) : FrS s H H2 := fun b o n k e => g b o n k (h b o n k e)
theorem FrS.but {s : Addr} {H H' : Hp} (h : But s H H') : FrS s H H' := fun b o n _ e => h b o n e
theorem FrS.seq {K : PySem.W.Frag} {s a : Addr} {H H' : Hp} {xs : List V} (h : FrS s H H') (n : Rd H a (.lst xs) → a ≠ s) (g : SqL K H a xs) : SqL K H' a xs := by
  rcases g with g | g
  · have n := n g
    exact .inl (g.imp (h _ _ n (fun _ => nofun)) fun ⟨o, k⟩ => ⟨o, h _ _ n (fun _ => nofun) k⟩)
  · exact .inr g
def sTr : TS := tAsg (tCall spTreeOf [] E0 (tCons (tVar 2) (tCons (tC (V.int 8)) tNil))) (gName 4)
def sPr : TS := tPar 5 6 (tCons (tDGet (tVar 4) (tC (V.str (Str.ofString "at")))) (tCons xShr tNil))
def sHs (K : PySem.W.Frag) (CH : Addr) : TS := tAsg (tCall (spLHouse K CH) [] E0 (tCons (tVar 4) (tCons (xDr 2) tNil))) (gName 7)
def lFor (P : Program) (w : World) (K : PySem.W.Frag) (mg : Str → Option Value) (base : Heap) (CH : Addr) : TS := tFor (iRng1 (tCons (tC (V.int 4)) tNil)) (gName 8) (bMore P w K mg base CH)
def lT (P : Program) (w : World) (K : PySem.W.Frag) (mg : Str → Option Value) (base : Heap) (CH : Addr) : TS := tSeq sTr (tSeq sPr (tSeq (sZy K) (tSeq (sHs K CH) (tSeq (lFor P w K mg base CH) (tSeq (cAny P w K mg base CH) (cSelf P w K mg base))))))
section
variable {P : Program} {w : World} {K : PySem.W.Frag} {mg : Str → Option Value} {base : Heap} {CH : Addr} {D : Ends} {H : Hp} {a s : Addr} {i j : V} {v4 v5 v6 v7 v8 v9 v10 v11 v12 v13 : Option V} {u : Nat}
theorem ok_lT (hc : HsC K CH) (hi : InsF K CH) (ho : OthF K CH) (eqHs : EqT P w K mg base 4 CH (RHsB K CH)) (hs : SrcB u H s) (hu : u ≤ 600000)
    (k : ∀ H' w4 w5 w6 w7 w8 w9 w10 w11 w12 w13, SrcB (u + 8020) H' s → FrS s H H' → D.nx [some (.ref a), some i, some (.ref s), some j, w4, w5, w6, w7, w8, w9, w10, w11, w12, w13] H') : lT P w K mg base CH D [some (.ref a), some i, some (.ref s), some j, v4, v5, v6, v7, v8, v9, v10, v11, v12, v13] H := by
  unfold lT
  refine r_seq ?_
  unfold sTr
  walk_at "rd"
  refine sp_treeof (n := 8) hs (by omega) (by decide) fun T ms H1 nT hT hms hml s1 b1 => ?_
  have G1 := (treeL_g hms (by omega)).mono (a' := 40) (b' := 4000) (by omega) (Nat.le_refl _)
  have f1 : (treeL ms).files.length ≤ 99 := by have := treeL_f hms; omega
  generalize treeL ms = l at hT G1 f1
  obtain ⟨A, F, ps, vs, g1⟩ := hT
  have pl : ps.length ≤ 40 := by rw [g1.at'.len]; exact G1.few
  walk_at "rd"
  unfold sPr
  walk_at "rd"
  refine ⟨T, .ref A, rfl, .inl ⟨_, Sum.inr "at", .inl g1.tr, rfl, rfl⟩, ?_⟩
  walk_at "rd"
  refine (show xShr (lS a s T i j v5 v6 v7 v8 v9 v10 v11 v12 v13) H1 _ from ok_xShr g1 (by omega) fun L zs H2 nL e2 gL lz hz => ?_)
  walk_at "rd"
  refine (show sZy K _ (lS a s T i j (some (.ref A)) (some (.ref L)) v7 v8 v9 v10 v11 v12 v13) H2 from ok_sZy rfl rfl (g1.same e2) (s1.same e2) (by omega) G1 gL (s1.ne nL) lz hz fun H3 ps3 l3 g3 G3 lf s3 f3 => ?_)
  have hT3 : LTR H3 s T l3 := ⟨A, F, ps3, vs, g3⟩
  have fr3 : FrS s H H3 := fun b o n nk h => by
    have h2 := e2 _ _ (b1 _ _ n h)
    exact f3 b o n (fun e => by rw [e, e2 _ _ g1.ad] at h2; exact nk _ (Option.some.inj h2).symm) h2
  unfold sHs xDr lS
  walk_at "rd"
  refine sp_draw s3 (by omega) (by decide) (by decide) fun d H4 d0 d1 s4 b4 => ?_
  have hT4 := hT3.but s3.src b4
  walk_at "rd"
  refine ⟨s, T, d, l3, 41, 4000, rfl, hT4, G3, by decide, by decide, fun x h ys H5 nx e5 hx hp hso hr => ?_⟩
  have hT5 := hT4.same e5
  have s5 := s4.same e5
  have fr5 : FrS s H H5 := fr3.trans (.but (b4.trans (Same.but e5)))
  walk_at "rd"
  unfold lFor
  walk_at "rd"
  refine for_it (walk_range (lo := 0) (n := _)) (fun n σ H' => ∃ w8 w9 w10 w11, σ = lS a s T i j (some (.ref A)) (some (.ref L)) (some (.ref x)) w8 w9 w10 w11 v12 v13 ∧ SrcB (u + 8002 + 3 * n) H' s ∧ But s H5 H') ⟨v8, v9, v10, v11, rfl, s5.mono (by omega), But.refl _ _⟩ (fun _ _ _ _ _ => True.intro) ?_ ?_
  · rintro n y σ Hc H6 hn ⟨w8, w9, w10, w11, rfl, s6, b6⟩ ⟨rfl, hy⟩
    have hn4 : n < 4 := by omega
    unfold lS
    refine r_gname ?_
    refine (show bMore P w K mg base CH _ (lS a s T i j (some (.ref A)) (some (.ref L)) (some (.ref x)) (some y) w9 w10 w11 v12 v13) H6 from ok_bMore hc hi eqHs (hT5.but s5.src b6) (G3.mono (by decide) (Nat.le_refl _)) (by rw [lf]; exact f1) rfl (hx.but s5.src b6) hp hso hr s6 (by omega) fun H7 w9 w10 w11 s7 b7 => ?_)
    exact ⟨_, _, _, _, rfl, s7.mono (by omega), b6.trans b7⟩
  · rintro σ H6 ⟨w8, w9, w10, w11, rfl, s6, b6⟩
    have hx6 := hx.but s5.src b6
    have hrl : h.rows.length ≤ 100 := by
      have h1 := hp.length_eq
      have h2 := G3.few
      rw [hr]
      unfold entL
      rw [List.length_map] at h1 ⊢
      omega
    refine r_seq ?_
    refine ok_cAny hc ho eqHs rfl hx6 hrl fun H7 e7 => ?_
    refine ok_cSelf hc hi eqHs rfl (hx6.same e7) fun H8 e8 => ?_
    exact k _ _ _ _ _ _ _ _ _ _ _ (((s6.same e7).same e8).mono (by omega)) (fr5.trans (.but ((b6.trans (Same.but e7)).trans (Same.but e8))))
end
/-! ### the law -/
section
variable {P : Program} {w : World} {K : PySem.W.Frag} {mg : Str → Option Value} {base : Heap}
def spLaw (K : PySem.W.Frag) : Sp := fun vs H Q _ => ∃ (a : Addr) (ns : List Int), vs = [.ref a] ∧ SqL K H a (ns.map V.int) ∧ ns.length ≤ 63 ∧ ∀ H', Q (.bl true) H'
theorem ok_law {f CH : Addr} {fd : FuncData} (F : Fun K "law" "law" s_law f fd) (m1 : mg "max" = none) (m2 : mg "min" = none) (m3 : mg "len" = none) (m4 : mg "range" = none) (m5 : mg "any" = none) (hc : HsC K CH) (hi : InsF K CH) (ho : OthF K CH) (eqHs : EqT P w K mg base 4 CH (RHsB K CH))
    (c_source : CalT P w K mg base 2 "_law_source" (spSource K)) (c_draw : CalT P w K mg base 2 "_law_draw" spDraw) (c_ltreeof : CalT P w K mg base 6 "_law_tree_of" spTreeOf) (c_lkind : CalT P w K mg base 2 "_law_kind" spLKind) (c_lhouse : CalT P w K mg base 8 "_law_house" (spLHouse K CH)) (c_lnear : CalT P w K mg base 3 "_law_near" spNear) (c_lentries : CalT P w K mg base 5 "_law_entries" (spLEnts K))
    (m_hlen : MethT P w K mg base 2 CH "__len__" (spHLen CH K)) (mA_entries : MetA P w K mg base 2 CH "entries" ["self"] (spHEnts CH K)) : FnG P w K mg base 9 f fd ["_law_script"] (spLaw K) := by
  refine Fun.okG (k := 8) F sc_law (fun vs H Q E9 h => ?_) (fun cdv A outer s H vs Q E9 hr gd0 h => ?_)
  · obtain ⟨a, ns, rfl, _⟩ := h
    rfl
  · obtain ⟨a, ns, rfl, ha, hn, q⟩ := h
    have hu := hu_of hr
    have hu64 := hr.units
    have nd := sc_law.nd
    refine ⟨_, (pss_cons (ps_for PassesOwn.never rfl (pi_range1 (by rfl) (by assumption) (pa_cons (pe_callB call_rMax2 (by rfl) (by assumption) (by decide +kernel) (pa_cons pe_int (pa_cons (pe_callB call_rMin2 (by rfl) (by assumption) (by decide +kernel) (pa_cons pe_int (pa_cons (pe_callB (call_lenK K) (by rfl) (by assumption) (by decide +kernel) (pa_cons (pv 0) pa_nil)) pa_nil))) pa_nil))) pa_nil)) (pg_name (i := 1) nd rfl (Or.inl rfl))
        (pss_cons (ps_set (i := 2) nd rfl (Or.inl rfl) (pe_cc c_source hr (by omega) (by rfl) (pa_cons (pv 0) (pa_cons (pv 1) pa_nil))))
      (pss_one (ps_for PassesOwn.never rfl (pi_range1 (by rfl) (by assumption) (pa_cons pe_int pa_nil)) (pg_name (i := 3) nd rfl (Or.inl rfl))
        (pss_cons (ps_set (i := 4) nd rfl (Or.inr rfl) (pe_cc c_ltreeof hr (by omega) (by rfl) (pa_cons (pv 2) (pa_cons pe_int pa_nil))))
      (pss_cons (ps_par (i := 5) (j := 6) rfl nd rfl rfl (by decide) rfl rfl (pa_cons (pe_dget hu (pv 4) pe_str (fun _ _ => rfl)) (pa_cons (pe_lock (pe_lc (own := [("_law_name", 12)]) (g := (gName 12)) rfl nd (pi_keys (pe_dget hu (pv 4) pe_str (fun _ _ => rfl))) (blkOk_by (N := N_law) (sc := defScope s_law) (by decide +kernel)) (fun _ _ _ _ _ => (pg_name (i := 12) nd rfl (Or.inl rfl))) (fun _ _ _ _ _ => pts_one (pt_cmpR op_eq (pe_cc c_lkind hr (by omega) (by rfl) (pa_cons (pv 4) (pa_cons (pv 12) pa_nil))) pe_str (nomark _))) (fun _ _ _ _ _ => (pv 12)))) pa_nil)) (by rfl))
      (pss_cons (ps_if (pt_cmpR (op_neE (Nat.lt_of_succ_lt hu)) (pv 6) (pe_lst pa_nil) (nomark _))
        (pss_one (ps_dput hu (pv 5) pe_str (pe_dget hu (pv 5) (pe_ix (ix_listK K) (pv 6) (pe_cc c_draw hr (by omega) (by rfl) (pa_cons (pv 2) (pa_cons (pe_callB (call_lenK K) (by rfl) (by assumption) (by decide +kernel) (pa_cons (pv 6) pa_nil)) pa_nil))) (fun _ _ => rfl)) (fun _ _ => rfl)) rfl))
        pss_nil)
      (pss_cons (ps_set (i := 7) nd rfl (Or.inr rfl) (pe_cc c_lhouse hr (by omega) (by rfl) (pa_cons (pv 4) (pa_cons (pe_cc c_draw hr (by omega) (by rfl) (pa_cons (pv 2) (pa_cons pe_int pa_nil))) pa_nil))))
      (pss_cons (ps_for PassesOwn.never rfl (pi_range1 (by rfl) (by assumption) (pa_cons pe_int pa_nil)) (pg_name (i := 8) nd rfl (Or.inl rfl))
        (pss_cons (ps_set (i := 9) nd rfl (Or.inl rfl) (pe_cc c_lnear hr (by omega) (by rfl) (pa_cons (pv 2) (pa_cons (pv 4) pa_nil))))
      (pss_cons (ps_set (i := 10) nd rfl (Or.inl rfl) (pe_cc c_lhouse hr (by omega) (by rfl) (pa_cons (pv 9) (pa_cons (pe_cc c_draw hr (by omega) (by rfl) (pa_cons (pv 2) (pa_cons pe_int pa_nil))) pa_nil))))
      (pss_cons (ps_set (i := 11) nd rfl (Or.inl rfl) (pe_cmpR (op_eqAL K eqA_row (Nat.lt_of_le_of_lt (Nat.add_le_add_left (by decide) _) hu64)) (pe_cc c_lentries hr (by omega) (by rfl) (pa_cons (pv 4) pa_nil)) (pe_cc c_lentries hr (by omega) (by rfl) (pa_cons (pv 9) pa_nil)) (nomark _)))
      (pss_one (ps_if (PW.pt (pw_or (pt_cmpR op_ne (pe_cmpR (op_ownEqVK (k := 4) (P := P) (w := w) (mg := mg) (base := base) K (hr.mono (by omega))) (pv 7) (pv 10) (nomark _)) (pv 11) (nomark _)) (pw_or (pt_cmpR op_eq (pe_cmpR (op_ownNeVK (k := 4) (P := P) (w := w) (mg := mg) (base := base) K (hr.mono (by omega)) (Nat.lt_of_le_of_lt (Nat.add_le_add_left (by decide) _) hu64)) (pv 7) (pv 10) (nomark _)) (pv 11) (nomark _)) (pw_or1 (pt_cmpR op_ne (pe_cmpR (op_ownEqVK (k := 4) (P := P) (w := w) (mg := mg) (base := base) K (hr.mono (by omega))) (pv 10) (pv 7) (nomark _)) (pv 11) (nomark _))))))
        (pss_one (ps_ret pe_bl))
        pss_nil))))))
      (pss_cons (ps_if (pt_val (pe_callB (call_anyK K) (by rfl) (by assumption) (by decide +kernel) (pa_cons (pe_lc (own := [("_law_value", 13)]) (g := (gName 13)) (tt := tYes) rfl nd (pi_list (pe_lst (pa_cons pe_non (pa_cons (pe_mtA0 mA_entries hr (by omega) (pv 7)) (pa_cons (pe_callB (call_lenO m_hlen hr (by omega)) (by rfl) (by assumption) (by decide +kernel) (pa_cons (pv 7) pa_nil)) (pa_cons pe_str pa_nil)))))) (blkOk_by (N := N_law) (sc := defScope s_law) (by decide +kernel)) (fun _ _ _ _ _ => (pg_name (i := 13) nd rfl (Or.inl rfl))) (fun _ _ _ _ _ => pts_nil) (fun _ _ _ _ _ => (pe_cmpR (op_ownEqVK (k := 4) (P := P) (w := w) (mg := mg) (base := base) K (hr.mono (by omega))) (pv 7) (pv 13) (nomark _)))) pa_nil)))
        (pss_one (ps_ret pe_bl))
        pss_nil)
      (pss_one (ps_if (PW.pt (pw_or (pt_cmpR (op_ownNeVK (k := 4) (P := P) (w := w) (mg := mg) (base := base) K (hr.mono (by omega)) (Nat.lt_of_le_of_lt (Nat.add_le_add_left (by decide) _) hu64)) (pv 7) (pv 7) (nomark _)) (pw_or1 (pt_not (pt_cmpR (op_ownEqVK (k := 4) (P := P) (w := w) (mg := mg) (base := base) K (hr.mono (by omega))) (pv 7) (pv 7) (nomark _))))))
        (pss_one (ps_ret pe_bl))
        pss_nil))))))))))))
      (pss_one (ps_ret pe_bl))), ?_⟩
    walk_at "rd"
    refine for_it (walk_range (lo := 0) (n := _)) (fun i σ H' => ∃ v1 v2 v3 v4 v5 v6 v7 v8 v9 v10 v11 v12 v13, σ = [some (.ref a), v1, v2, v3, v4, v5, v6, v7, v8, v9, v10, v11, v12, v13] ∧ SqL K H' a (ns.map V.int)) ⟨none, none, none, none, none, none, none, none, none, none, none, none, none, rfl, ha⟩ (fun _ _ _ _ _ => True.intro) ?_ ?_
    · rintro i x σ Hc H' hi9 ⟨v1, v2, v3, v4, v5, v6, v7, v8, v9, v10, v11, v12, v13, rfl, eH⟩ ⟨rfl, hx⟩
      simp only [Int.zero_add] at hx
      subst hx
      have hi4 : i ≤ 63 := by
        revert hi9
        split
        · split <;> omega
        · omega
      refine r_gname ?_
      refine r_seq (r_asg (r_call (r_cons (r_var rfl (r_cons (r_var rfl (r_nil ?_)))))))
      refine sp_source eH hn hi4 fun s0 H1 na e1 s1 => ?_
      refine r_gname ?_
      dsimp only
      walk_at "rd"
      refine for_it (walk_range (lo := 0) (n := _)) (fun j σ H2 => ∃ v3 v4 v5 v6 v7 v8 v9 v10 v11 v12 v13, σ = [some (.ref a), some (.int (i : Int)), some (.ref s0), v3, v4, v5, v6, v7, v8, v9, v10, v11, v12, v13] ∧ SrcB (8020 * j) H2 s0 ∧ FrS s0 H1 H2) ⟨v3, v4, v5, v6, v7, v8, v9, v10, v11, v12, v13, rfl, s1, FrS.refl⟩ (fun _ _ _ _ _ => True.intro) ?_ ?_
      · rintro j x σ Hc2 H2 hj ⟨v3, v4, v5, v6, v7, v8, v9, v10, v11, v12, v13, rfl, s2, b2⟩ ⟨rfl, hx⟩
        have hj3 : j < 3 := by omega
        refine r_gname ?_
        refine (show lT P w K mg base CH _ [some (.ref a), some (.int (i : Int)), some (.ref s0), some x, v4, v5, v6, v7, v8, v9, v10, v11, v12, v13] _ from ?_)
        refine ok_lT hc hi ho eqHs s2 (by omega) fun H3 w4 w5 w6 w7 w8 w9 w10 w11 w12 w13 s3 b3 => ?_
        exact ⟨_, w4, w5, w6, w7, w8, w9, w10, w11, w12, w13, rfl, s3.mono (by omega), b2.trans b3⟩
      · rintro σ H2 ⟨v3, v4, v5, v6, v7, v8, v9, v10, v11, v12, v13, rfl, s2, b2⟩
        refine ⟨_, _, v3, v4, v5, v6, v7, v8, v9, v10, v11, v12, v13, rfl, ?_⟩
        rcases eH with h | h
        · refine b2.seq (fun _ e => ?_) (e1.seq (.inl h))
          subst e
          rcases h with h | ⟨o, h⟩ <;> rw [na] at h <;> cases h
        · exact .inr h
    · rintro σ Hc ⟨v1, v2, v3, v4, v5, v6, v7, v8, v9, v10, v11, v12, v13, rfl, eH⟩
      walk_at "rd"
      exact q _
end
structure KindF (K : PySem.W.Frag) (C : Addr) (z : Str) : Prop where
  ex : ∃ mc u, ClX.CRead K C mc ∧ ClX.CVal K C mc "KIND" (.str z) u
/-! ### what the top has written -/
structure DefF (K : PySem.W.Frag) (x : Str) (st : Stmt) (f : Addr) : Prop where
  ns : PySem.W.nsIn K mainGlobals x = some (some (.ref f))
  fn : ∃ (oc : Value) (od an : Option Addr) (kV doc pm cdv ct : Value) (osl : Array (Option Value)), K.lookup f = some ⟨oc, od, .func (PySem.W.fnOf x x (defArgs st) (defBody st) (defScope st) .none kV doc pm an cdv ct), osl⟩ ∧ PySem.W.codeIn K cdv x = true
  kp : PySem.W.keepIn K (.ref f) = true
theorem DefF.fun_ {K : PySem.W.Frag} {x : Str} {st : Stmt} {f : Addr} (d : DefF K x st f) : ∃ fd, Fun K x x st f fd := by
  obtain ⟨oc, od, an, kV, doc, pm, cdv, ct, osl, l, c⟩ := d.fn
  exact ⟨_, fun_mk l c d.kp⟩
section
variable {P : Program} {w : World} {K : PySem.W.Frag} {mg : Str → Option Value} {base : Heap}
theorem cal_mk {h : Heap} {x : Str} {st : Stmt} {f : Addr} {ps : List Str} {k : Nat} {sp : Sp} (X : K.In h) (G : h.Ns mainGlobals mg) (d : DefF K x st f)
    (hb : ∀ (kV doc pm : Value) (an : Option Addr) (cdv ct : Value) (us : List Value), us.length = ps.length → bindArgs (PySem.W.fnOf x x (defArgs st) (defBody st) (defScope st) .none kV doc pm an cdv ct) ⟨us, []⟩ = pure (ps.zip us))
    (ok : ∀ fd, Fun K x x st f fd → FnOk P w K mg base CX0 k f fd ps sp) : CalT P w K mg base k x sp := by
  obtain ⟨fd, F⟩ := d.fun_
  exact ⟨f, fd, ps, ok fd F, PySem.W.mg_of X G d.ns, d.kp, F.binds hb⟩
end
/-! ### classes with a KIND, as the top leaves them -/
structure ClsF (K : PySem.W.Frag) (x kind : Str) (C aM fI : Addr) (attrs : List Str) : Prop where
  ns : PySem.W.nsIn K mainGlobals x = some (some (.ref C))
  cl : Cls K C
  mkk : Mk K C fI
  cf : CF K C aM kind
  kind : KindF K C kind
  na : ∀ f ∈ attrs, NoAttr K C f
theorem clsF_mk {K : PySem.W.Frag} {x kind : Str} {C aM fI : Addr} {r : List Str} {t : Tok} (ns : PySem.W.nsIn K mainGlobals x = some (some (.ref C)))
    (pg : PySem.W.plainGet K C Str.empty = true) (hd : PySem.W.hasDictIn K C = true) (po : PySem.W.plainOver K C = true) (sa : PySem.W.findIn K (.ref C) "__setattr__" = some (some (.builtin "object.__setattr__")))
    (mk : PySem.W.makesIn K C = true) (ini : PySem.W.findIn K (.ref C) "__init__" = some (some (.ref fI))) (ifn : PySem.W.isFn K (.ref fI) = true) (kp : PySem.W.keepIn K (.ref C) = true)
    (ha : PySem.W.findIn K (.ref C) "__class__" = some (some (.builtin "object.__class__"))) (hm : PySem.W.mroIn K C (.type "object") = some true) (kit : PySem.W.kitOne K (.ref C) (.ref aM) = some true)
    (kat : PySem.W.findIn K (.ref C) "KIND" = some (some (.str kind t))) (kget : PySem.W.specialIn K (.str kind t) "__get__" = some none) (krd : PySem.W.readsIn K C (.type "type") = true)
    (kga : PySem.W.specialIn K (.ref C) "__getattribute__" = some (some (.builtin "type.__getattribute__"))) (kcl : PySem.W.findCls K (.ref C) (.type "type") "KIND" = some (.val (.str kind t)))
    (hn : PySem.W.specialIn K (.builtin "object.__class__") "__get__" = some (some (.builtin "getset_descriptor.__get__"))) (htk : PySem.W.takesIn K (.builtin "object.__class__") = some true)
    (na : ∀ f ∈ ("name" :: "mode" :: "time" :: r : List Str), PySem.W.findIn K (.ref C) f = some none) : ClsF K x kind C aM fI ("name" :: "mode" :: "time" :: r) :=
  ⟨ns, ⟨pg, hd, po, sa⟩, ⟨mk, ini, ifn, kp⟩, ⟨⟨pg, hd, po, sa⟩, ha, hn, htk, hm, kit, ⟨_, kat, ⟨t, rfl⟩, kget, by decide⟩, na _ (by simp), na _ (by simp), na _ (by simp)⟩, ⟨_, _, ⟨krd, kga⟩, ⟨kcl, ⟨t, rfl⟩⟩⟩, na⟩
structure IniF (K : PySem.W.Frag) (qual : Str) (st : Stmt) (b : Int) (f : Addr) : Prop where
  ex : ∃ (oc : Value) (od : Option Addr) (D : Addr) (doc pm : Value) (an : Option Addr) (cdv ct : Value) (osl : Array (Option Value)) (t1 t2 : Tok),
    K.lookup f = some ⟨oc, od, .func (PySem.W.fnOf "__init__" qual (defArgs st) (defBody st) (defScope st) .none (.ref D) doc pm an cdv ct), osl⟩ ∧ PySem.W.codeIn K cdv qual = true ∧ PySem.W.nsIn K D "mode" = some (some (.int b t1)) ∧ PySem.W.nsIn K D "time" = some (some (.int 0 t2))
  kp : PySem.W.keepIn K (.ref f) = true
theorem iniF_mk {K : PySem.W.Frag} {qual : Str} {st : Stmt} {b : Int} {f : Addr} {oc : Value} {od : Option Addr} {D : Addr} {doc pm : Value} {an : Option Addr} {cdv ct : Value} {osl : Array (Option Value)} {t1 t2 : Tok}
    (il : K.lookup f = some ⟨oc, od, .func (PySem.W.fnOf "__init__" qual (defArgs st) (defBody st) (defScope st) .none (.ref D) doc pm an cdv ct), osl⟩) (ic : PySem.W.codeIn K cdv qual = true) (ik : PySem.W.keepIn K (.ref f) = true)
    (i1 : PySem.W.nsIn K D "mode" = some (some (.int b t1))) (i2 : PySem.W.nsIn K D "time" = some (some (.int 0 t2))) : IniF K qual st b f := ⟨⟨oc, od, D, doc, pm, an, cdv, ct, osl, t1, t2, il, ic, i1, i2⟩, ik⟩
theorem IniF.fun_ {K : PySem.W.Frag} {qual : Str} {st : Stmt} {b : Int} {f : Addr} (d : IniF K qual st b f) : ∃ fd, FunD K "__init__" qual (defArgs st) (defBody st) (defScope st) [] [("mode", .int b), ("time", .int 0)] f fd := by
  obtain ⟨oc, od, D, doc, pm, an, cdv, ct, osl, t1, t2, il, ic, i1, i2⟩ := d.ex
  refine ⟨_, ⟨oc, od, .none, .ref D, doc, pm, an, cdv, ct, osl, rfl, il, ic, .inl ⟨rfl, rfl⟩, .inr ⟨D, rfl, ?_⟩⟩, d.kp⟩
  intro q hq
  simp only [List.mem_cons, List.not_mem_nil, or_false] at hq
  rcases hq with rfl | rfl
  · exact ⟨_, i1, ⟨_, rfl⟩⟩
  · exact ⟨_, i2, ⟨_, rfl⟩⟩
structure MetF (K : PySem.W.Frag) (C : Addr) (m qual : Str) (st : Stmt) (f : Addr) : Prop where
  me : Meth K C m f
  fn : ∃ (oc : Value) (od an : Option Addr) (kV doc pm cdv ct : Value) (osl : Array (Option Value)), K.lookup f = some ⟨oc, od, .func (PySem.W.fnOf m qual (defArgs st) (defBody st) (defScope st) .none kV doc pm an cdv ct), osl⟩ ∧ PySem.W.codeIn K cdv qual = true
theorem MetF.meth {P : Program} {w : World} {K : PySem.W.Frag} {mg : Str → Option Value} {base : Heap} {C : Addr} {m qual : Str} {st : Stmt} {f : Addr} {k : Nat} {sp : Sp} (t : MetF K C m qual st f) (hc : Cls K C) (ok : ∀ fd, Fun K m qual st f fd → FnOk P w K mg base CX0 k f fd ["self"] sp)
    (hb : ∀ (kV doc pm : Value) (an : Option Addr) (cdv ct : Value) (us : List Value), us.length = 1 → bindArgs (PySem.W.fnOf m qual (defArgs st) (defBody st) (defScope st) .none kV doc pm an cdv ct) ⟨us, []⟩ = pure ((["self"] : List Str).zip us) := by intro _ _ _ _ _ _ us hl; match us, hl with | [_], _ => rfl) : MethT P w K mg base k C m sp := by
  obtain ⟨oc, od, an, kV, doc, pm, cdv, ct, osl, l, c⟩ := t.fn
  have F := fun_mk l c t.me.kp
  exact ⟨f, _, ok _ F, hc, t.me, F.binds hb⟩
/-- a def with keyword-only parameters that have defaults -/
structure KwF (K : PySem.W.Frag) (x : Str) (st : Stmt) (kws : List (Str × V)) (f : Addr) : Prop where
  ns : PySem.W.nsIn K mainGlobals x = some (some (.ref f))
  kp : PySem.W.keepIn K (.ref f) = true
  fn : ∃ (oc : Value) (od an : Option Addr) (D : Addr) (doc pm cdv ct : Value) (osl : Array (Option Value)), K.lookup f = some ⟨oc, od, .func (PySem.W.fnOf x x (defArgs st) (defBody st) (defScope st) .none (.ref D) doc pm an cdv ct), osl⟩ ∧ PySem.W.codeIn K cdv x = true ∧ ∀ q ∈ kws, ∃ u, PySem.W.nsIn K D q.1 = some (some u) ∧ RelV q.2 u
theorem KwF.fun_ {K : PySem.W.Frag} {x : Str} {st : Stmt} {kws : List (Str × V)} {f : Addr} (d : KwF K x st kws f) : ∃ fd, Fun K x x st f fd ∧ FunD K x x (defArgs st) (defBody st) (defScope st) [] kws f fd := by
  obtain ⟨oc, od, an, D, doc, pm, cdv, ct, osl, l, c, hq⟩ := d.fn
  exact ⟨_, fun_mk l c d.kp, ⟨⟨oc, od, .none, .ref D, doc, pm, an, cdv, ct, osl, rfl, l, c, .inl ⟨rfl, rfl⟩, .inr ⟨D, rfl, hq⟩⟩, d.kp⟩⟩
/-- a class of the program without a KIND -/
structure CdF (K : PySem.W.Frag) (x : Str) (C fI : Addr) (attrs : List Str) : Prop where
  ns : PySem.W.nsIn K mainGlobals x = some (some (.ref C))
  cl : Cls K C
  mkk : Mk K C fI
  na : ∀ f ∈ attrs, PySem.W.findIn K (.ref C) f = some none
section
variable {P : Program} {w : World} {K : PySem.W.Frag} {mg : Str → Option Value} {base : Heap}
theorem MetF.metA {C : Addr} {m qual : Str} {st : Stmt} {f : Addr} {ps : List Str} {k : Nat} {sp : Sp} (t : MetF K C m qual st f) (hc : Cls K C)
    (hb : ∀ (kV doc pm : Value) (an : Option Addr) (cdv ct : Value) (us : List Value), us.length = ps.length → bindArgs (PySem.W.fnOf m qual (defArgs st) (defBody st) (defScope st) .none kV doc pm an cdv ct) ⟨us, []⟩ = pure (ps.zip us))
    (ok : ∀ fd, Fun K m qual st f fd → FnOk P w K mg base CX0 k f fd ps sp) : MetA P w K mg base k C m ps sp := by
  obtain ⟨oc, od, an, kV, doc, pm, cdv, ct, osl, l, c⟩ := t.fn
  have F := fun_mk l c t.me.kp
  exact ⟨f, _, ok _ F, hc, t.me, F.binds hb⟩
theorem maks0 {h : Heap} {x qual : Str} {st : Stmt} {C f : Addr} {ps : List Str} {n k : Nat} {sp : Sp} (X : K.In h) (G : h.Ns mainGlobals mg) (ns : PySem.W.nsIn K mainGlobals x = some (some (.ref C))) (mk : Mk K C f) (t : MetF K C "__init__" qual st f) (hn : ps.length = n)
    (hb : ∀ (kV doc pm : Value) (an : Option Addr) (cdv ct : Value) (us : List Value), us.length = ps.length → bindArgs (PySem.W.fnOf "__init__" qual (defArgs st) (defBody st) (defScope st) .none kV doc pm an cdv ct) ⟨us, []⟩ = pure (ps.zip us))
    (ok : ∀ fd, Fun K "__init__" qual st f fd → FnOk P w K mg base CX0 k f fd ps sp) : MakS P w K mg base k x C [] (fun vs zs H Q => vs.length = n ∧ ∀ E, sp (vs ++ zs) H Q E) := by
  obtain ⟨oc, od, an, kV, doc, pm, cdv, ct, osl, l, c⟩ := t.fn
  have F := fun_mk l c t.me.kp
  have B : Binds K _ ps [] := F.binds hb
  refine ⟨f, mk, fnS_of (ok _ F) ⟨fun s us ws hk h1 h2 => ?_, fun r1 r2 => r1.append r2⟩, PySem.W.mg_of X G ns⟩
  cases ws with
  | cons w ws => cases h2
  | nil => exact B s us hk (by simp [h1, hn])
theorem eqT_mk {C : Addr} {qual : Str} {st : Stmt} {f : Addr} {k : Nat} {R : Addr → Addr → Hp → Bool → Prop} (e : EqF K C f) (t : MetF K C "__eq__" qual st f) (ok : ∀ fd, Fun K "__eq__" qual st f fd → FnOk P w K mg base CX0 k f fd ["self", "other"] (spEqM K C R))
    (hb : ∀ (kV doc pm : Value) (an : Option Addr) (cdv ct : Value) (us : List Value), us.length = 2 → bindArgs (PySem.W.fnOf "__eq__" qual (defArgs st) (defBody st) (defScope st) .none kV doc pm an cdv ct) ⟨us, []⟩ = pure ((["self", "other"] : List Str).zip us) := by intro _ _ _ _ _ _ us hl; match us, hl with | [_, _], _ => rfl) : EqT P w K mg base k C R := by
  obtain ⟨oc, od, an, kV, doc, pm, cdv, ct, osl, l, c⟩ := t.fn
  have F := fun_mk l c t.me.kp
  exact ⟨f, e, (FnOk.raw (ok _ F) (F.binds hb) .nil).imp fun vs H Q E h => by rw [List.append_nil]; exact h⟩
end
structure CmF (K : PySem.W.Frag) (C : Addr) (m qual : Str) (st : Stmt) (p g : Addr) : Prop where
  rd : ClX.CRead K C (.type "type")
  cm : ClX.CMet K C (.type "type") m p g
  fg : ∃ (oc : Value) (od an : Option Addr) (kV doc pm cdv ct : Value) (osl : Array (Option Value)), K.lookup g = some ⟨oc, od, .func (PySem.W.fnOf m qual (defArgs st) (defBody st) (defScope st) .none kV doc pm an cdv ct), osl⟩ ∧ PySem.W.codeIn K cdv qual = true
  kg : PySem.W.keepIn K (.ref g) = true
section
variable {P : Program} {w : World} {K : PySem.W.Frag} {mg : Str → Option Value} {base : Heap}
theorem all_mk {l : PySem.W.OpenLaw} {w : World} {K : PySem.W.Frag} {h : Heap} {mg : Str → Option Value} {fa f_law f_is_integer f_is_integer_within f_is_row_of_bytes f_blob f_is_name f__law_source f__law_draw f__law_stamps f__law_numbers f_check_name f_is_data f_check_data f_is_size f_is_mode f_is_time f_check_mode_and_time f_is_piece f_are_spans f_are_pieces f_check_pieces f_target_of f_paths_above f_directory_of f_is_path f_kind_at f_is_thing f_is_entry f_stands_right f_are_entries f_filled f_thing_of f_refusal f_unpack f_unpacked f__law_path f__law_pieces f__law_spec f__law_specs f__law_above f__law_is_path f__law_tree f__law_copied f__law_kind f__law_word f__law_content f__law_stepped f__law_tree_of f__law_entries f__law_near f__law_house aM aF aS aD aY aL fIF fIS fID fIY fIL aNP aMD aHs iHouse aTr iTree mHouse___len__ mHouse_entries pOf gOf mF_content mS_content mTree_house mTree_refusal_at mTree_put fEHs : Addr} {t_MOST_CHARACTERS t_NAME_CHARACTERS t_MOST_BYTES t_LAST_MODE t_LAST_TIME t_MOST_PIECES : Tok} (X : K.In h) (G : h.Ns mainGlobals mg) (hfa : mg "law" = some (.ref fa))
    (d_law : DefF K "law" s_law f_law)
    (d_is_integer : DefF K "is_integer" s_is_integer f_is_integer)
    (d_is_integer_within : DefF K "is_integer_within" s_is_integer_within f_is_integer_within)
    (d_is_row_of_bytes : DefF K "is_row_of_bytes" s_is_row_of_bytes f_is_row_of_bytes)
    (d_blob : DefF K "blob" s_blob f_blob)
    (d_is_name : DefF K "is_name" s_is_name f_is_name)
    (d__law_source : DefF K "_law_source" s__law_source f__law_source)
    (d__law_draw : DefF K "_law_draw" s__law_draw f__law_draw)
    (d__law_stamps : DefF K "_law_stamps" s__law_stamps f__law_stamps)
    (d__law_numbers : DefF K "_law_numbers" s__law_numbers f__law_numbers)
    (d_check_name : DefF K "check_name" s_check_name f_check_name)
    (d_is_data : DefF K "is_data" s_is_data f_is_data)
    (d_check_data : DefF K "check_data" s_check_data f_check_data)
    (d_is_size : DefF K "is_size" s_is_size f_is_size)
    (d_is_mode : DefF K "is_mode" s_is_mode f_is_mode)
    (d_is_time : DefF K "is_time" s_is_time f_is_time)
    (d_check_mode_and_time : DefF K "check_mode_and_time" s_check_mode_and_time f_check_mode_and_time)
    (d_is_piece : DefF K "is_piece" s_is_piece f_is_piece)
    (d_are_spans : DefF K "are_spans" s_are_spans f_are_spans)
    (d_are_pieces : DefF K "are_pieces" s_are_pieces f_are_pieces)
    (d_check_pieces : DefF K "check_pieces" s_check_pieces f_check_pieces)
    (d_target_of : DefF K "target_of" s_target_of f_target_of)
    (d_paths_above : DefF K "paths_above" s_paths_above f_paths_above)
    (d_directory_of : DefF K "directory_of" s_directory_of f_directory_of)
    (d_is_path : DefF K "is_path" s_is_path f_is_path)
    (d_kind_at : DefF K "kind_at" s_kind_at f_kind_at)
    (d_is_thing : DefF K "is_thing" s_is_thing f_is_thing)
    (d_is_entry : DefF K "is_entry" s_is_entry f_is_entry)
    (d_stands_right : DefF K "stands_right" s_stands_right f_stands_right)
    (d_are_entries : DefF K "are_entries" s_are_entries f_are_entries)
    (d_filled : DefF K "filled" s_filled f_filled)
    (d_thing_of : DefF K "thing_of" s_thing_of f_thing_of)
    (d_refusal : DefF K "refusal" s_refusal f_refusal)
    (d_unpack : DefF K "unpack" s_unpack f_unpack)
    (d_unpacked : DefF K "unpacked" s_unpacked f_unpacked)
    (d__law_path : DefF K "_law_path" s__law_path f__law_path)
    (d__law_pieces : DefF K "_law_pieces" s__law_pieces f__law_pieces)
    (d__law_spec : DefF K "_law_spec" s__law_spec f__law_spec)
    (d__law_specs : DefF K "_law_specs" s__law_specs f__law_specs)
    (d__law_above : DefF K "_law_above" s__law_above f__law_above)
    (d__law_is_path : DefF K "_law_is_path" s__law_is_path f__law_is_path)
    (d__law_tree : DefF K "_law_tree" s__law_tree f__law_tree)
    (d__law_copied : DefF K "_law_copied" s__law_copied f__law_copied)
    (d__law_kind : DefF K "_law_kind" s__law_kind f__law_kind)
    (d__law_word : DefF K "_law_word" s__law_word f__law_word)
    (d__law_content : DefF K "_law_content" s__law_content f__law_content)
    (d__law_stepped : DefF K "_law_stepped" s__law_stepped f__law_stepped)
    (d__law_tree_of : DefF K "_law_tree_of" s__law_tree_of f__law_tree_of)
    (d__law_entries : DefF K "_law_entries" s__law_entries f__law_entries)
    (d__law_near : DefF K "_law_near" s__law_near f__law_near)
    (d__law_house : DefF K "_law_house" s__law_house f__law_house)
    (n_MOST_CHARACTERS : PySem.W.nsIn K mainGlobals "MOST_CHARACTERS" = some (some (.int 250 t_MOST_CHARACTERS)))
    (n_NAME_CHARACTERS : PySem.W.nsIn K mainGlobals "NAME_CHARACTERS" = some (some (.str NC t_NAME_CHARACTERS)))
    (n_MOST_BYTES : PySem.W.nsIn K mainGlobals "MOST_BYTES" = some (some (.int 4096 t_MOST_BYTES)))
    (n_LAST_MODE : PySem.W.nsIn K mainGlobals "LAST_MODE" = some (some (.int 4095 t_LAST_MODE)))
    (n_LAST_TIME : PySem.W.nsIn K mainGlobals "LAST_TIME" = some (some (.int 8589934591 t_LAST_TIME)))
    (n_MOST_PIECES : PySem.W.nsIn K mainGlobals "MOST_PIECES" = some (some (.int 50 t_MOST_PIECES)))
    (n_NO_PARTS : PySem.W.nsIn K mainGlobals "NO_PARTS" = some (some (.ref aNP)))
    (n_MADE : PySem.W.nsIn K mainGlobals "MADE" = some (some (.ref aMD)))
    (n_Member : PySem.W.nsIn K mainGlobals "Member" = some (some (.ref aM)))
    (hF : ClsF K "File" "file" aF aM fIF ["name", "mode", "time", "data"])
    (iF : IniF K "File.__init__" s_File___init__ 420 fIF)
    (hS : ClsF K "Sparse" "sparse" aS aM fIS ["name", "mode", "time", "size", "pieces"])
    (iS : IniF K "Sparse.__init__" s_Sparse___init__ 420 fIS)
    (hD : ClsF K "Directory" "directory" aD aM fID ["name", "mode", "time"])
    (iD : IniF K "Directory.__init__" s_Directory___init__ 493 fID)
    (hY : ClsF K "Symlink" "symlink" aY aM fIY ["name", "mode", "time", "target"])
    (iY : IniF K "Symlink.__init__" s_Symlink___init__ 511 fIY)
    (hL : ClsF K "Link" "link" aL aM fIL ["name", "mode", "time", "target"])
    (iL : IniF K "Link.__init__" s_Link___init__ 420 fIL)
    (kFF : PySem.W.kitOne K (.ref aF) (.ref aF) = some true)
    (kFS : PySem.W.kitOne K (.ref aF) (.ref aS) = some false)
    (kFY : PySem.W.kitOne K (.ref aF) (.ref aY) = some false)
    (kFL : PySem.W.kitOne K (.ref aF) (.ref aL) = some false)
    (kSF : PySem.W.kitOne K (.ref aS) (.ref aF) = some false)
    (kSS : PySem.W.kitOne K (.ref aS) (.ref aS) = some true)
    (kSY : PySem.W.kitOne K (.ref aS) (.ref aY) = some false)
    (kSL : PySem.W.kitOne K (.ref aS) (.ref aL) = some false)
    (kDF : PySem.W.kitOne K (.ref aD) (.ref aF) = some false)
    (kDS : PySem.W.kitOne K (.ref aD) (.ref aS) = some false)
    (kDY : PySem.W.kitOne K (.ref aD) (.ref aY) = some false)
    (kDL : PySem.W.kitOne K (.ref aD) (.ref aL) = some false)
    (kYF : PySem.W.kitOne K (.ref aY) (.ref aF) = some false)
    (kYS : PySem.W.kitOne K (.ref aY) (.ref aS) = some false)
    (kYY : PySem.W.kitOne K (.ref aY) (.ref aY) = some true)
    (kLF : PySem.W.kitOne K (.ref aL) (.ref aF) = some false)
    (kLS : PySem.W.kitOne K (.ref aL) (.ref aS) = some false)
    (kLY : PySem.W.kitOne K (.ref aL) (.ref aY) = some false)
    (kLL : PySem.W.kitOne K (.ref aL) (.ref aL) = some true)
    (npH : ∀ H, SqT K H aNP [.str "", .str ".", .str ".."])
    (mdH : ∀ H, SqT K H aMD [.str "directory", .int 493, .int 0])
    (kDD : PySem.W.kitOne K (.ref aD) (.ref aD) = some true)
    (kFD : PySem.W.kitOne K (.ref aF) (.ref aD) = some false)
    (kSD : PySem.W.kitOne K (.ref aS) (.ref aD) = some false)
    (kYD : PySem.W.kitOne K (.ref aY) (.ref aD) = some false)
    (kLD : PySem.W.kitOne K (.ref aL) (.ref aD) = some false)
    (kYL : PySem.W.kitOne K (.ref aY) (.ref aL) = some false)
    (hHouse : CdF K "House" aHs iHouse ["rows", "things", "firsts"])
    (tHouse___init__ : MetF K aHs "__init__" "House.__init__" s_House___init__ iHouse)
    (hTree : CdF K "Tree" aTr iTree ["things", "marks", "many"])
    (tTree___init__ : MetF K aTr "__init__" "Tree.__init__" s_Tree___init__ iTree)
    (tHouse___len__ : MetF K aHs "__len__" "House.__len__" s_House___len__ mHouse___len__)
    (tHouse_entries : MetF K aHs "entries" "House.entries" s_House_entries mHouse_entries)
    (hOf : CmF K aHs "of" "House.of" s_House_of pOf gOf)
    (tF_content : MetF K aF "content" "File.content" s_File_content mF_content)
    (tS_content : MetF K aS "content" "Sparse.content" s_Sparse_content mS_content)
    (tTree_house : MetF K aTr "house" "Tree.house" s_Tree_house mTree_house)
    (tTree_refusal_at : MetF K aTr "refusal_at" "Tree.refusal_at" s_Tree_refusal_at mTree_refusal_at)
    (tTree_put : MetF K aTr "put" "Tree.put" s_Tree_put mTree_put)
    (hsI : InsF K aHs)
    (oNN : PySem.W.notFirst K aHs (.type "NoneType") = true)
    (oKN : PySem.W.kitOne K (.type "NoneType") (.ref aHs) = some false)
    (oNL : PySem.W.notFirst K aHs (.type "list") = true)
    (oKL : PySem.W.kitOne K (.type "list") (.ref aHs) = some false)
    (oNI : PySem.W.notFirst K aHs (.type "int") = true)
    (oKI : PySem.W.kitOne K (.type "int") (.ref aHs) = some false)
    (oNS : PySem.W.notFirst K aHs (.type "str") = true)
    (oKS : PySem.W.kitOne K (.type "str") (.ref aHs) = some false)
    (tHs_eq : MetF K aHs "__eq__" "House.__eq__" s_House___eq__ fEHs)
    (qHs : EqF K aHs fEHs)
    (z : ∀ b ∈ (["isinstance", "bool", "int", "list", "tuple", "all", "bytes", "str", "len", "abs", "range", "any", "sorted", "enumerate", "dict", "max", "min"] : List Str), PySem.W.nsIn K mainGlobals b = some none) :
    ∃ fd : FuncData, (∀ (s : Shared) (v : Value), BindsTo s fd ⟨[v], []⟩ [("_law_script", v)]) ∧ ∀ base : Heap, K.In base → base.Ns mainGlobals mg → FnG l.prog w K mg base 9 fa fd ["_law_script"] (spLaw K) := by
  have e := hfa.symm.trans (PySem.W.mg_of X G d_law.ns)
  cases e
  have bs : ∀ b ∈ (["isinstance", "bool", "int", "list", "tuple", "all", "bytes", "str", "len", "abs", "range", "any", "sorted", "enumerate", "dict", "max", "min"] : List Str), mg b = none := fun b hb => PySem.W.mg_none_of X G (z b hb)
  have b_isinstance : mg "isinstance" = none := bs _ (by simp)
  have b_bool : mg "bool" = none := bs _ (by simp)
  have b_int : mg "int" = none := bs _ (by simp)
  have b_list : mg "list" = none := bs _ (by simp)
  have b_tuple : mg "tuple" = none := bs _ (by simp)
  have b_all : mg "all" = none := bs _ (by simp)
  have b_bytes : mg "bytes" = none := bs _ (by simp)
  have b_str : mg "str" = none := bs _ (by simp)
  have b_len : mg "len" = none := bs _ (by simp)
  have b_abs : mg "abs" = none := bs _ (by simp)
  have b_range : mg "range" = none := bs _ (by simp)
  have b_any : mg "any" = none := bs _ (by simp)
  have b_sorted : mg "sorted" = none := bs _ (by simp)
  have b_enumerate : mg "enumerate" = none := bs _ (by simp)
  have b_dict : mg "dict" = none := bs _ (by simp)
  have b_max : mg "max" = none := bs _ (by simp)
  have b_min : mg "min" = none := bs _ (by simp)
  have g_MOST_CHARACTERS := PySem.W.mg_of X G n_MOST_CHARACTERS
  have g_NAME_CHARACTERS := PySem.W.mg_of X G n_NAME_CHARACTERS
  have g_MOST_BYTES := PySem.W.mg_of X G n_MOST_BYTES
  have g_LAST_MODE := PySem.W.mg_of X G n_LAST_MODE
  have g_LAST_TIME := PySem.W.mg_of X G n_LAST_TIME
  have g_MOST_PIECES := PySem.W.mg_of X G n_MOST_PIECES
  have g_NO_PARTS := PySem.W.mg_of X G n_NO_PARTS
  have g_MADE := PySem.W.mg_of X G n_MADE
  have MM : MF K ⟨aF, aS, aD, aY, aL⟩ aM := ⟨⟨kFF, kFS, kFY, kFL, kSF, kSS, kSY, kSL, kDF, kDS, kDY, kDL, kYF, kYS, kYY, kLF, kLS, kLY, kLL⟩, hF.cf, hS.cf, hD.cf, hY.cf, hL.cf, hF.na _ (by simp), hS.na _ (by simp), hS.na _ (by simp), hY.na _ (by simp), hL.na _ (by simp)⟩
  obtain ⟨fd, F⟩ := d_law.fun_
  refine ⟨fd, ?_, ?_⟩
  · obtain ⟨oc, od, kV, doc, pm, an, cdv, ct, osl, rfl, lk, hcd⟩ := F.ex
    intro s v
    exact .of_eq rfl
  · intro base Xb Gb
    have c_is_integer : CalT l.prog w K mg base 1 "is_integer" spIsI := cal_mk Xb Gb d_is_integer (ps := ["thing"]) (fun _ _ _ _ _ _ us hl => match us, hl with | [_], _ => rfl) fun fd F => ok_isI F b_isinstance b_bool b_int
    have c_is_integer_within : CalT l.prog w K mg base 2 "is_integer_within" spWithin := cal_mk Xb Gb d_is_integer_within (ps := ["thing", "least", "most"]) (fun _ _ _ _ _ _ us hl => match us, hl with | [_, _, _], _ => rfl) fun fd F => ok_within F c_is_integer
    have c_is_row_of_bytes : CalT l.prog w K mg base 3 "is_row_of_bytes" spRow := cal_mk Xb Gb d_is_row_of_bytes (ps := ["thing"]) (fun _ _ _ _ _ _ us hl => match us, hl with | [_], _ => rfl) fun fd F => ok_row F c_is_integer_within b_isinstance b_list b_tuple b_all
    have c_blob : CalT l.prog w K mg base 4 "blob" spBlob := cal_mk Xb Gb d_blob (ps := ["numbers"]) (fun _ _ _ _ _ _ us hl => match us, hl with | [_], _ => rfl) fun fd F => ok_blob F c_is_row_of_bytes b_bytes
    have c_is_name : CalT l.prog w K mg base 2 "is_name" (spName K) := cal_mk Xb Gb d_is_name (ps := ["thing"]) (fun _ _ _ _ _ _ us hl => match us, hl with | [_], _ => rfl) fun fd F => ok_name F b_isinstance b_str b_len b_all g_MOST_CHARACTERS g_NAME_CHARACTERS
    have c__law_source : CalT l.prog w K mg base 2 "_law_source" (spSource K) := cal_mk Xb Gb d__law_source (ps := ["_law_script", "_law_at"]) (fun _ _ _ _ _ _ us hl => match us, hl with | [_, _], _ => rfl) fun fd F => ok_source F b_len b_int b_abs
    have c__law_draw : CalT l.prog w K mg base 2 "_law_draw" spDraw := cal_mk Xb Gb d__law_draw (ps := ["_law_source_here", "_law_many"]) (fun _ _ _ _ _ _ us hl => match us, hl with | [_, _], _ => rfl) fun fd F => ok_draw F b_int
    have c__law_stamps : CalT l.prog w K mg base 3 "_law_stamps" spStamps := cal_mk Xb Gb d__law_stamps (ps := ["_law_source_here"]) (fun _ _ _ _ _ _ us hl => match us, hl with | [_], _ => rfl) fun fd F => ok_stamps F c__law_draw
    have c__law_numbers : CalT l.prog w K mg base 3 "_law_numbers" spNums := cal_mk Xb Gb d__law_numbers (ps := ["_law_source_here"]) (fun _ _ _ _ _ _ us hl => match us, hl with | [_], _ => rfl) fun fd F => ok_numbers F b_range c__law_draw
    have c_check_name : CalT l.prog w K mg base 3 "check_name" spCName := cal_mk Xb Gb d_check_name (ps := ["thing"]) (fun _ _ _ _ _ _ us hl => match us, hl with | [_], _ => rfl) fun fd F => ok_cname F c_is_name
    have c_is_data : CalT l.prog w K mg base 2 "is_data" spIsData := cal_mk Xb Gb d_is_data (ps := ["thing"]) (fun _ _ _ _ _ _ us hl => match us, hl with | [_], _ => rfl) fun fd F => ok_isdata F b_isinstance b_bytes b_len g_MOST_BYTES
    have c_check_data : CalT l.prog w K mg base 3 "check_data" spCData := cal_mk Xb Gb d_check_data (ps := ["thing"]) (fun _ _ _ _ _ _ us hl => match us, hl with | [_], _ => rfl) fun fd F => ok_cdata F c_is_data
    have c_is_size : CalT l.prog w K mg base 3 "is_size" (spIn 0 4096) := cal_mk Xb Gb d_is_size (ps := ["thing"]) (fun _ _ _ _ _ _ us hl => match us, hl with | [_], _ => rfl) fun fd F => ok_issize F g_MOST_BYTES c_is_integer_within
    have c_is_mode : CalT l.prog w K mg base 3 "is_mode" (spIn 0 4095) := cal_mk Xb Gb d_is_mode (ps := ["thing"]) (fun _ _ _ _ _ _ us hl => match us, hl with | [_], _ => rfl) fun fd F => ok_ismode F g_LAST_MODE c_is_integer_within
    have c_is_time : CalT l.prog w K mg base 3 "is_time" (spIn 0 8589934591) := cal_mk Xb Gb d_is_time (ps := ["thing"]) (fun _ _ _ _ _ _ us hl => match us, hl with | [_], _ => rfl) fun fd F => ok_istime F g_LAST_TIME c_is_integer_within
    have c_check_mode_and_time : CalT l.prog w K mg base 4 "check_mode_and_time" spStamp := cal_mk Xb Gb d_check_mode_and_time (ps := ["mode", "time"]) (fun _ _ _ _ _ _ us hl => match us, hl with | [_, _], _ => rfl) fun fd F => ok_stamp F c_is_mode c_is_time
    have c_is_piece : CalT l.prog w K mg base 3 "is_piece" spPiece := cal_mk Xb Gb d_is_piece (ps := ["thing"]) (fun _ _ _ _ _ _ us hl => match us, hl with | [_], _ => rfl) fun fd F => ok_piece F b_isinstance b_tuple b_len b_bytes g_MOST_BYTES c_is_integer_within
    have c_are_spans : CalT l.prog w K mg base 2 "are_spans" spASpans := cal_mk Xb Gb d_are_spans (ps := ["size", "spans"]) (fun _ _ _ _ _ _ us hl => match us, hl with | [_, _], _ => rfl) fun fd F => ok_aspans F b_len g_MOST_PIECES
    have c_are_pieces : CalT l.prog w K mg base 4 "are_pieces" spAPieces := cal_mk Xb Gb d_are_pieces (ps := ["size", "pieces"]) (fun _ _ _ _ _ _ us hl => match us, hl with | [_, _], _ => rfl) fun fd F => ok_apieces F b_len b_all c_is_piece c_are_spans
    have c_check_pieces : CalT l.prog w K mg base 5 "check_pieces" spCPieces := cal_mk Xb Gb d_check_pieces (ps := ["size", "pieces"]) (fun _ _ _ _ _ _ us hl => match us, hl with | [_, _], _ => rfl) fun fd F => ok_cpieces F c_is_size c_are_pieces
    have mkF_K : MakS l.prog w K mg base 5 "File" aF ["mode", "time"] (fun vs zs H Q => vs.length = 3 ∧ ∀ E, spFileI aF (vs ++ zs) H Q E) := by
      obtain ⟨fd, F⟩ := iF.fun_
      obtain ⟨mv, hb⟩ := F.kbinds0 (ps := ["self", "name", "data", "mode", "time"]) 3 ["mode", "time"] [] (fun us _ ws => us ++ ws) (by simp) (by simp) (fun r1 _ r2 => r1.append r2) (fun D doc pm an cdv ct us mv ws h1 h2 h3 => match us, mv, ws, h1, h2, h3 with | [_, _, _], [], [_, _], _, _, _ => rfl)
      exact ⟨fIF, hF.mkk, fnS_of (ok_fileI F hF.cl (hF.na "name" (by simp)) (hF.na "data" (by simp)) (hF.na "mode" (by simp)) (hF.na "time" (by simp)) c_check_name c_check_data c_check_mode_and_time) hb, PySem.W.mg_of X G hF.ns⟩
    have mkF_D : MakS l.prog w K mg base 5 "File" aF [] (fun vs zs H Q => zs = [] ∧ ∀ E, spFileI aF (vs ++ [.int 420, .int 0]) H Q E) := by
      obtain ⟨fd, F⟩ := iF.fun_
      obtain ⟨ds, hd, hb⟩ := F.binds0 (ps := ["self", "name", "data", "mode", "time"]) 3 (by simp) rfl (fun D doc pm an cdv ct us ks h1 h2 => match us, ks, h1, h2 with | [_, _, _], [_, _], _, _ => ⟨_, _, _, _, _, _, rfl, rfl, _, _, _, _, _, _, rfl, rfl, rfl⟩)
      exact ⟨fIF, hF.mkk, fnS_dfl (ok_fileI F hF.cl (hF.na "name" (by simp)) (hF.na "data" (by simp)) (hF.na "mode" (by simp)) (hF.na "time" (by simp)) c_check_name c_check_data c_check_mode_and_time) hb hd, PySem.W.mg_of X G hF.ns⟩
    have mkS_K : MakS l.prog w K mg base 6 "Sparse" aS ["mode", "time"] (fun vs zs H Q => ∃ b t : Int, zs = [.int b, .int t] ∧ spSpa aS b t vs H Q) := by
      obtain ⟨fd, F⟩ := iS.fun_
      exact ⟨fIS, hS.mkk, ok_spaK F hS.cl (hS.na "name" (by simp)) (hS.na "size" (by simp)) (hS.na "mode" (by simp)) (hS.na "time" (by simp)) (hS.na "pieces" (by simp)) c_check_name c_check_pieces c_check_mode_and_time, PySem.W.mg_of X G hS.ns⟩
    have mkS_D : MakS l.prog w K mg base 6 "Sparse" aS [] (fun vs zs H Q => zs = [] ∧ spSpa aS 420 0 vs H Q) := by
      obtain ⟨fd, F⟩ := iS.fun_
      exact ⟨fIS, hS.mkk, ok_spaD F hS.cl (hS.na "name" (by simp)) (hS.na "size" (by simp)) (hS.na "mode" (by simp)) (hS.na "time" (by simp)) (hS.na "pieces" (by simp)) c_check_name c_check_pieces c_check_mode_and_time, PySem.W.mg_of X G hS.ns⟩
    have mkD_K : MakS l.prog w K mg base 5 "Directory" aD ["mode", "time"] (fun vs zs H Q => vs.length = 2 ∧ ∀ E, spDirI aD (vs ++ zs) H Q E) := by
      obtain ⟨fd, F⟩ := iD.fun_
      obtain ⟨mv, hb⟩ := F.kbinds0 (ps := ["self", "name", "mode", "time"]) 2 ["mode", "time"] [] (fun us _ ws => us ++ ws) (by simp) (by simp) (fun r1 _ r2 => r1.append r2) (fun D doc pm an cdv ct us mv ws h1 h2 h3 => match us, mv, ws, h1, h2, h3 with | [_, _], [], [_, _], _, _, _ => rfl)
      exact ⟨fID, hD.mkk, fnS_of (ok_dirI F hD.cl (hD.na "name" (by simp)) (hD.na "mode" (by simp)) (hD.na "time" (by simp)) c_check_name c_check_mode_and_time) hb, PySem.W.mg_of X G hD.ns⟩
    have mkD_D : MakS l.prog w K mg base 5 "Directory" aD [] (fun vs zs H Q => zs = [] ∧ ∀ E, spDirI aD (vs ++ [.int 493, .int 0]) H Q E) := by
      obtain ⟨fd, F⟩ := iD.fun_
      obtain ⟨ds, hd, hb⟩ := F.binds0 (ps := ["self", "name", "mode", "time"]) 2 (by simp) rfl (fun D doc pm an cdv ct us ks h1 h2 => match us, ks, h1, h2 with | [_, _], [_, _], _, _ => ⟨_, _, _, _, _, _, rfl, rfl, _, _, _, _, _, _, rfl, rfl, rfl⟩)
      exact ⟨fID, hD.mkk, fnS_dfl (ok_dirI F hD.cl (hD.na "name" (by simp)) (hD.na "mode" (by simp)) (hD.na "time" (by simp)) c_check_name c_check_mode_and_time) hb hd, PySem.W.mg_of X G hD.ns⟩
    have mkY_K : MakS l.prog w K mg base 5 "Symlink" aY ["mode", "time"] (fun vs zs H Q => vs.length = 3 ∧ ∀ E, spSymI aY (vs ++ zs) H Q E) := by
      obtain ⟨fd, F⟩ := iY.fun_
      obtain ⟨mv, hb⟩ := F.kbinds0 (ps := ["self", "name", "target", "mode", "time"]) 3 ["mode", "time"] [] (fun us _ ws => us ++ ws) (by simp) (by simp) (fun r1 _ r2 => r1.append r2) (fun D doc pm an cdv ct us mv ws h1 h2 h3 => match us, mv, ws, h1, h2, h3 with | [_, _, _], [], [_, _], _, _, _ => rfl)
      exact ⟨fIY, hY.mkk, fnS_of (ok_symI F hY.cl (hY.na "name" (by simp)) (hY.na "target" (by simp)) (hY.na "mode" (by simp)) (hY.na "time" (by simp)) c_check_name c_check_mode_and_time) hb, PySem.W.mg_of X G hY.ns⟩
    have mkY_D : MakS l.prog w K mg base 5 "Symlink" aY [] (fun vs zs H Q => zs = [] ∧ ∀ E, spSymI aY (vs ++ [.int 511, .int 0]) H Q E) := by
      obtain ⟨fd, F⟩ := iY.fun_
      obtain ⟨ds, hd, hb⟩ := F.binds0 (ps := ["self", "name", "target", "mode", "time"]) 3 (by simp) rfl (fun D doc pm an cdv ct us ks h1 h2 => match us, ks, h1, h2 with | [_, _, _], [_, _], _, _ => ⟨_, _, _, _, _, _, rfl, rfl, _, _, _, _, _, _, rfl, rfl, rfl⟩)
      exact ⟨fIY, hY.mkk, fnS_dfl (ok_symI F hY.cl (hY.na "name" (by simp)) (hY.na "target" (by simp)) (hY.na "mode" (by simp)) (hY.na "time" (by simp)) c_check_name c_check_mode_and_time) hb hd, PySem.W.mg_of X G hY.ns⟩
    have mkL_K : MakS l.prog w K mg base 5 "Link" aL ["mode", "time"] (fun vs zs H Q => vs.length = 3 ∧ ∀ E, spSymI aL (vs ++ zs) H Q E) := by
      obtain ⟨fd, F⟩ := iL.fun_
      obtain ⟨mv, hb⟩ := F.kbinds0 (ps := ["self", "name", "target", "mode", "time"]) 3 ["mode", "time"] [] (fun us _ ws => us ++ ws) (by simp) (by simp) (fun r1 _ r2 => r1.append r2) (fun D doc pm an cdv ct us mv ws h1 h2 h3 => match us, mv, ws, h1, h2, h3 with | [_, _, _], [], [_, _], _, _, _ => rfl)
      exact ⟨fIL, hL.mkk, fnS_of (ok_lnkI F hL.cl (hL.na "name" (by simp)) (hL.na "target" (by simp)) (hL.na "mode" (by simp)) (hL.na "time" (by simp)) c_check_name c_check_mode_and_time) hb, PySem.W.mg_of X G hL.ns⟩
    have mkL_D : MakS l.prog w K mg base 5 "Link" aL [] (fun vs zs H Q => zs = [] ∧ ∀ E, spSymI aL (vs ++ [.int 420, .int 0]) H Q E) := by
      obtain ⟨fd, F⟩ := iL.fun_
      obtain ⟨ds, hd, hb⟩ := F.binds0 (ps := ["self", "name", "target", "mode", "time"]) 3 (by simp) rfl (fun D doc pm an cdv ct us ks h1 h2 => match us, ks, h1, h2 with | [_, _, _], [_, _], _, _ => ⟨_, _, _, _, _, _, rfl, rfl, _, _, _, _, _, _, rfl, rfl, rfl⟩)
      exact ⟨fIL, hL.mkk, fnS_dfl (ok_lnkI F hL.cl (hL.na "name" (by simp)) (hL.na "target" (by simp)) (hL.na "mode" (by simp)) (hL.na "time" (by simp)) c_check_name c_check_mode_and_time) hb hd, PySem.W.mg_of X G hL.ns⟩
    have c_target_of : CalT l.prog w K mg base 2 "target_of" (spTarget ⟨aF, aS, aD, aY, aL⟩) := cal_mk Xb Gb d_target_of (ps := ["member"]) (fun _ _ _ _ _ _ us hl => match us, hl with | [_], _ => rfl) fun fd F => ok_target (c := ⟨aF, aS, aD, aY, aL⟩) F b_isinstance MM (PySem.W.mg_of X G hY.ns) (PySem.W.mg_of X G hL.ns)
    have c_paths_above : CalT l.prog w K mg base 2 "paths_above" spAbove := cal_mk Xb Gb d_paths_above (ps := ["path"]) (fun _ _ _ _ _ _ us hl => match us, hl with | [_], _ => rfl) fun fd F => ok_above F b_range b_len
    have c_directory_of : CalT l.prog w K mg base 2 "directory_of" spDirOf := cal_mk Xb Gb d_directory_of (ps := ["path"]) (fun _ _ _ _ _ _ us hl => match us, hl with | [_], _ => rfl) fun fd F => ok_dirof F 
    have c_is_path : CalT l.prog w K mg base 3 "is_path" spIsPath := cal_mk Xb Gb d_is_path (ps := ["thing"]) (fun _ _ _ _ _ _ us hl => match us, hl with | [_], _ => rfl) fun fd F => ok_ispath F b_any g_NO_PARTS npH c_is_name
    have c_kind_at : CalT l.prog w K mg base 2 "kind_at" (spKindAt K) := cal_mk Xb Gb d_kind_at (ps := ["path", "things"]) (fun _ _ _ _ _ _ us hl => match us, hl with | [_, _], _ => rfl) fun fd F => ok_kindat F 
    have c_is_thing : CalT l.prog w K mg base 4 "is_thing" (spIsThing K) := cal_mk Xb Gb d_is_thing (ps := ["thing"]) (fun _ _ _ _ _ _ us hl => match us, hl with | [_], _ => rfl) fun fd F => ok_isthing F b_isinstance b_tuple b_len b_str c_is_data c_is_name c_is_mode c_is_time
    have c_is_entry : CalT l.prog w K mg base 5 "is_entry" (spIsEntry K) := cal_mk Xb Gb d_is_entry (ps := ["thing"]) (fun _ _ _ _ _ _ us hl => match us, hl with | [_], _ => rfl) fun fd F => ok_isentry F b_isinstance b_tuple b_len c_is_path c_is_thing
    have c_stands_right : CalT l.prog w K mg base 3 "stands_right" (spStands K) := cal_mk Xb Gb d_stands_right (ps := ["path", "things"]) (fun _ _ _ _ _ _ us hl => match us, hl with | [_, _], _ => rfl) fun fd F => ok_stands F c_directory_of c_kind_at
    have c_are_entries : CalT l.prog w K mg base 6 "are_entries" (spEntries K) := cal_mk Xb Gb d_are_entries (ps := ["thing"]) (fun _ _ _ _ _ _ us hl => match us, hl with | [_], _ => rfl) fun fd F => ok_entries F b_isinstance b_tuple b_len b_list b_all c_is_entry c_stands_right
    have hHsC : HsC K aHs := ⟨hHouse.cl, hHouse.na "rows" (by simp), hHouse.na "things" (by simp), hHouse.na "firsts" (by simp)⟩
    have hTrC : TrC K aTr := ⟨hTree.cl, hTree.na "things" (by simp), hTree.na "marks" (by simp), hTree.na "many" (by simp)⟩
    have mk0_House : Mk0T l.prog w K mg base 2 "House" aHs (spHInit aHs) := by
      obtain ⟨oc, od, an, kV, doc, pm, cdv, ct, osl, l, c⟩ := tHouse___init__.fn
      exact ⟨iHouse, _, hHouse.mkk, (fun F => ok_hinit F hHsC) (fun_mk l c tHouse___init__.me.kp), (fun_mk l c tHouse___init__.me.kp).binds (by intro _ _ _ _ _ _ us hl; match us, hl with | [_], _ => rfl), PySem.W.mg_of X G hHouse.ns⟩
    have mT_House___len__ : MethT l.prog w K mg base 2 aHs "__len__" (spHLen aHs K) := tHouse___len__.meth hHouse.cl fun fd F => ok_hlen F hHsC b_len
    have mA_entries : MetA l.prog w K mg base 2 aHs "entries" ["self"] (spHEnts aHs K) := tHouse_entries.metA hHouse.cl (fun _ _ _ _ _ _ us hl => match us, hl with | [_], _ => rfl) fun fd F => ok_hents F hHsC b_list
    have c_filled : CalT l.prog w K mg base 2 "filled" (spFilled K aHs) := cal_mk Xb Gb d_filled (ps := ["house", "things", "marks"]) (fun _ _ _ _ _ _ us hl => match us, hl with | [_, _, _], _ => rfl) fun fd F => ok_filled F hHsC b_sorted b_tuple
    have c_of : CMetT l.prog w K mg base 7 aHs "of" ["cls", "entries"] (spHOf K aHs) := by
      obtain ⟨oc, od, an, kV, doc, pm, cdv, ct, osl, l, c⟩ := hOf.fg
      exact ⟨_, pOf, gOf, _, hOf.rd, hOf.cm, (fun F => ok_hof F hHsC c_are_entries c_filled mk0_House) (fun_mk l c hOf.kg), (fun_mk l c hOf.kg).binds (by intro _ _ _ _ _ _ us hl; match us, hl with | [_, _], _ => rfl)⟩
    have mC_F : MethT l.prog w K mg base 2 aF "content" (spContF aF) := tF_content.meth hF.cl fun fd F => ok_contF F hF.cl (hF.na "data" (by simp))
    have mC_S : MethT l.prog w K mg base 2 aS "content" (spContS aS) := tS_content.meth hS.cl fun fd F => ok_contS F hS.cl (hS.na "size" (by simp)) (hS.na "pieces" (by simp)) b_bytes b_len
    have c_thing_of : CalT l.prog w K mg base 3 "thing_of" (spThingOf K ⟨aF, aS, aD, aY, aL⟩) := cal_mk Xb Gb d_thing_of (ps := ["member"]) (fun _ _ _ _ _ _ us hl => match us, hl with | [_], _ => rfl) fun fd F => ok_thingof (c := ⟨aF, aS, aD, aY, aL⟩) F b_isinstance MM ⟨kDD, kFD, kSD, kYD, kLD, kYL⟩ (PySem.W.mg_of X G hD.ns) (PySem.W.mg_of X G hF.ns) (PySem.W.mg_of X G hS.ns) (PySem.W.mg_of X G hY.ns) mC_F mC_S
    have mk_Tree : MakS l.prog w K mg base 2 "Tree" aTr [] (fun vs zs H Q => vs.length = 2 ∧ ∀ E, (spTInit K aTr aHs) (vs ++ zs) H Q E) := maks0 X G hTree.ns hTree.mkk tTree___init__ (ps := ["self", "house"]) (n := 2) rfl (fun _ _ _ _ _ _ us hl => match us, hl with | [_, _], _ => rfl) fun fd F => ok_tinit F hTrC hHsC
    have mA_house : MetA l.prog w K mg base 4 aTr "house" ["self"] (spTHouse K aTr aHs) := tTree_house.metA hTree.cl (fun _ _ _ _ _ _ us hl => match us, hl with | [_], _ => rfl) fun fd F => ok_thouse F hTrC c_filled mk0_House
    have mA_refusal_at : MetA l.prog w K mg base 3 aTr "refusal_at" ["self", "path", "member", "target"] (spRefAt K aTr ⟨aF, aS, aD, aY, aL⟩) := tTree_refusal_at.metA hTree.cl (fun _ _ _ _ _ _ us hl => match us, hl with | [_, _, _, _], _ => rfl) fun fd F => ok_refat (c := ⟨aF, aS, aD, aY, aL⟩) F hTrC b_isinstance MM ⟨kDD, kFD, kSD, kYD, kLD, kYL⟩ (PySem.W.mg_of X G hD.ns) (PySem.W.mg_of X G hL.ns) c_kind_at
    have mA_put : MetA l.prog w K mg base 4 aTr "put" ["self", "path", "member", "target"] (spPut K aTr ⟨aF, aS, aD, aY, aL⟩) := tTree_put.metA hTree.cl (fun _ _ _ _ _ _ us hl => match us, hl with | [_, _, _, _], _ => rfl) fun fd F => ok_put (c := ⟨aF, aS, aD, aY, aL⟩) F hTrC b_isinstance MM ⟨kDD, kFD, kSD, kYD, kLD, kYL⟩ (PySem.W.mg_of X G hL.ns) g_MADE mdH c_paths_above c_thing_of
    have c_refusal : CalT l.prog w K mg base 4 "refusal" (spRefusal K aTr ⟨aF, aS, aD, aY, aL⟩) := cal_mk Xb Gb d_refusal (ps := ["tree", "member"]) (fun _ _ _ _ _ _ us hl => match us, hl with | [_, _], _ => rfl) fun fd F => ok_refusal (c := ⟨aF, aS, aD, aY, aL⟩) F hTrC MM c_is_path c_paths_above c_kind_at c_target_of mA_refusal_at
    have c_unpack : CalT l.prog w K mg base 5 "unpack" (spUnpack K aTr ⟨aF, aS, aD, aY, aL⟩) := cal_mk Xb Gb d_unpack (ps := ["tree", "index", "member"]) (fun _ _ _ _ _ _ us hl => match us, hl with | [_, _, _], _ => rfl) fun fd F => ok_unpack (c := ⟨aF, aS, aD, aY, aL⟩) F hTrC MM c_refusal c_target_of mA_put
    have c_unpacked : CalT l.prog w K mg base 6 "unpacked" (spUnpd K aTr aHs ⟨aF, aS, aD, aY, aL⟩) := cal_mk Xb Gb d_unpacked (ps := ["house", "members"]) (fun _ _ _ _ _ _ us hl => match us, hl with | [_, _], _ => rfl) fun fd F => ok_unpd (c := ⟨aF, aS, aD, aY, aL⟩) F b_enumerate hTrC mk_Tree c_unpack mA_house
    have c__law_path : CalT l.prog w K mg base 3 "_law_path" spPathH := cal_mk Xb Gb d__law_path (ps := ["_law_source_here"]) (fun _ _ _ _ _ _ us hl => match us, hl with | [_], _ => rfl) fun fd F => ok_path F b_range c__law_draw
    have c__law_pieces : CalT l.prog w K mg base 3 "_law_pieces" spPcs := cal_mk Xb Gb d__law_pieces (ps := ["_law_source_here"]) (fun _ _ _ _ _ _ us hl => match us, hl with | [_], _ => rfl) fun fd F => ok_pieces F b_len c__law_draw
    have c__law_spec : CalT l.prog w K mg base 4 "_law_spec" spSpecH := cal_mk Xb Gb d__law_spec (ps := ["_law_source_here", "_law_name", "_law_names"]) (fun _ _ _ _ _ _ us hl => match us, hl with | [_, _, _], _ => rfl) fun fd F => ok_spec F b_len c__law_draw c__law_stamps c__law_numbers c__law_pieces
    have c__law_specs : CalT l.prog w K mg base 5 "_law_specs" spSpecs := cal_mk Xb Gb d__law_specs (ps := ["_law_source_here", "_law_most"]) (fun _ _ _ _ _ _ us hl => match us, hl with | [_, _], _ => rfl) fun fd F => ok_specs F b_len b_range c__law_draw c__law_path c__law_spec
    have c__law_above : CalT l.prog w K mg base 2 "_law_above" spAbove := cal_mk Xb Gb d__law_above (ps := ["_law_name"]) (fun _ _ _ _ _ _ us hl => match us, hl with | [_], _ => rfl) fun fd F => ok_labove F b_range b_len
    have c__law_is_path : CalT l.prog w K mg base 2 "_law_is_path" spLIsPath := cal_mk Xb Gb d__law_is_path (ps := ["_law_name"]) (fun _ _ _ _ _ _ us hl => match us, hl with | [_], _ => rfl) fun fd F => ok_lispath F b_all
    have c__law_tree : CalT l.prog w K mg base 2 "_law_tree" spLTree := cal_mk Xb Gb d__law_tree (ps := []) (fun _ _ _ _ _ _ us hl => match us, hl with | [], _ => rfl) fun fd F => ok_ltree F 
    have c__law_copied : CalT l.prog w K mg base 2 "_law_copied" spLCopied := cal_mk Xb Gb d__law_copied (ps := ["_law_tree_here"]) (fun _ _ _ _ _ _ us hl => match us, hl with | [_], _ => rfl) fun fd F => ok_lcopied F b_dict b_list
    have c__law_kind : CalT l.prog w K mg base 2 "_law_kind" spLKind := cal_mk Xb Gb d__law_kind (ps := ["_law_tree_here", "_law_name"]) (fun _ _ _ _ _ _ us hl => match us, hl with | [_, _], _ => rfl) fun fd F => ok_lkind F 
    have c__law_word : CalT l.prog w K mg base 3 "_law_word" spLWord := cal_mk Xb Gb d__law_word (ps := ["_law_tree_here", "_law_spec_here"]) (fun _ _ _ _ _ _ us hl => match us, hl with | [_, _], _ => rfl) fun fd F => ok_lword F b_all c__law_above c__law_is_path c__law_kind
    have c__law_content : CalT l.prog w K mg base 2 "_law_content" spLCont := cal_mk Xb Gb d__law_content (ps := ["_law_spec_here"]) (fun _ _ _ _ _ _ us hl => match us, hl with | [_], _ => rfl) fun fd F => ok_lcontent F b_len
    have c__law_stepped : CalT l.prog w K mg base 3 "_law_stepped" spLStep := cal_mk Xb Gb d__law_stepped (ps := ["_law_tree_here", "_law_spec_here"]) (fun _ _ _ _ _ _ us hl => match us, hl with | [_, _], _ => rfl) fun fd F => ok_lstep F b_len c__law_above c__law_copied c__law_content
    have c__law_tree_of : CalT l.prog w K mg base 6 "_law_tree_of" spTreeOf := cal_mk Xb Gb d__law_tree_of (ps := ["_law_source_here", "_law_most"]) (fun _ _ _ _ _ _ us hl => match us, hl with | [_, _], _ => rfl) fun fd F => ok_ltreeof F c__law_tree c__law_specs c__law_word c__law_stepped
    have c__law_entries : CalT l.prog w K mg base 5 "_law_entries" (spLEnts K) := cal_mk Xb Gb d__law_entries (ps := ["_law_tree_here"]) (fun _ _ _ _ _ _ us hl => match us, hl with | [_], _ => rfl) fun fd F => ok_lents F b_sorted c_blob
    have c__law_near : CalT l.prog w K mg base 3 "_law_near" spNear := cal_mk Xb Gb d__law_near (ps := ["_law_source_here", "_law_tree_here"]) (fun _ _ _ _ _ _ us hl => match us, hl with | [_, _], _ => rfl) fun fd F => ok_lnear F b_sorted b_int b_len c__law_draw c__law_copied
    have c__law_house : CalT l.prog w K mg base 8 "_law_house" (spLHouse K aHs) := cal_mk Xb Gb d__law_house (ps := ["_law_tree_here", "_law_road"]) (fun _ _ _ _ _ _ us hl => match us, hl with | [_, _], _ => rfl) fun fd F => ok_lhouse (c := ⟨aF, aS, aD, aY, aL⟩) F MM (PySem.W.mg_of X G hHouse.ns) c__law_entries c_of c_unpacked mk0_House mkF_K mkD_K mkY_K mkL_D
    have eqHs : EqT l.prog w K mg base 4 aHs (RHsB K aHs) := eqT_mk qHs tHs_eq fun fd F => ok_eqHouse F hHsC hsI b_isinstance (PySem.W.mg_of X G hHouse.ns)
    exact ok_law F b_max b_min b_len b_range b_any hHsC hsI ⟨oNN, oNL, oNI, oNS, oKN, oKL, oKI, oKS⟩ eqHs c__law_source c__law_draw c__law_tree_of c__law_kind c__law_house c__law_near c__law_entries mT_House___len__ mA_entries
end
end Th
namespace Th
open PySem PySem.Spec PyProof.Rows L2
theorem defF_of {K : PySem.W.Frag} {x : Str} {st : Stmt} {f : Addr} (a : PySem.W.nsIn K mainGlobals x = some (some (.ref f))) (b : Hk.FnAt K x x st f ∧ PySem.W.keepIn K (.ref f) = true) : DefF K x st f := ⟨a, b.1, b.2⟩
theorem clsF_of {K : PySem.W.Frag} {x kind : Str} {C aM fI : Addr} {r : List Str} {t : Tok} (ns : PySem.W.nsIn K mainGlobals x = some (some (.ref C))) (c : Cls K C) (m : Mk K C fI)
    (k : PySem.W.findIn K (.ref C) "__class__" = some (some (.builtin "object.__class__")) ∧ PySem.W.mroIn K C (.type "object") = some true ∧ PySem.W.specialIn K (.builtin "object.__class__") "__get__" = some (some (.builtin "getset_descriptor.__get__")) ∧ PySem.W.takesIn K (.builtin "object.__class__") = some true)
    (kit : PySem.W.kitOne K (.ref C) (.ref aM) = some true) (kat : PySem.W.findIn K (.ref C) "KIND" = some (some (.str kind t))) (kget : PySem.W.specialIn K (.str kind t) "__get__" = some none) (kcl : PySem.W.findCls K (.ref C) (.type "type") "KIND" = some (.val (.str kind t)))
    (rd : Hk.readB K C = true) (na : ∀ f ∈ ("name" :: "mode" :: "time" :: r : List Str), PySem.W.findIn K (.ref C) f = some none) : ClsF K x kind C aM fI ("name" :: "mode" :: "time" :: r) := by
  obtain ⟨pg, hd, po, sa⟩ := c
  obtain ⟨mk, ini, ifn, kp⟩ := m
  obtain ⟨r1, r2⟩ := He.ba rd
  exact clsF_mk ns pg hd po sa mk ini ifn kp k.1 k.2.1 kit kat kget r1 (He.eqO_ok r2) kcl k.2.2.1 k.2.2.2 na
theorem iniF_of {K : PySem.W.Frag} {qual : Str} {st : Stmt} {b : Int} {f : Addr} (h : Hk.FnAt K "__init__" qual st f ∧ PySem.W.keepIn K (.ref f) = true) (q : Hk.kwsV K f [("mode", .int b), ("time", .int 0)] = true) : IniF K qual st b f := by
  obtain ⟨⟨oc, od, an, kV, doc, pm, cdv, ct, osl, l, cd⟩, kp⟩ := h
  obtain ⟨D, e, v⟩ := Hk.kwsV_ok q
  obtain rfl := Hk.kwAt_ok l e
  obtain ⟨t1, e1⟩ := Hk.nsI (v ("mode", .int b) (by simp))
  obtain ⟨t2, e2⟩ := Hk.nsI (v ("time", .int 0) (by simp))
  exact iniF_mk l cd kp e1 e2
theorem metF_of {K : PySem.W.Frag} {C : Addr} {m qual : Str} {st : Stmt} {f : Addr} (me : Meth K C m f) (h : Hk.FnAt K m qual st f ∧ PySem.W.keepIn K (.ref f) = true) : MetF K C m qual st f := ⟨me, h.1⟩
theorem cmF_of {K : PySem.W.Frag} {C : Addr} {m qual : Str} {st : Stmt} {p g : Addr} (rd : Hk.readB K C = true) (cm : ClX.CMet K C (.type "type") m p g) (q : Hk.FnAt K m qual st g ∧ PySem.W.keepIn K (.ref g) = true) : CmF K C m qual st p g := by
  obtain ⟨r1, r2⟩ := He.ba rd
  obtain ⟨⟨oc, od, an, kV, doc, pm, cdv, ct, osl, l, cd⟩, gk⟩ := q
  exact ⟨⟨r1, He.eqO_ok r2⟩, cm, ⟨oc, od, an, kV, doc, pm, cdv, ct, osl, l, cd⟩, gk⟩
theorem eqF_of {K : PySem.W.Frag} {C f : Addr} (h : Meth K C "__eq__" f ∧ PySem.W.findIn K (.ref C) "__ne__" = some (some (.builtin "object.__ne__")) ∧ PySem.W.subIn K (.ref C) (.type "object") = some true) : EqF K C f := ⟨h.1.at_, h.1.fn, h.2.1, h.2.2⟩
theorem insF_of {K : PySem.W.Frag} {C : Addr} (k : PySem.W.findIn K (.ref C) "__class__" = some (some (.builtin "object.__class__")) ∧ PySem.W.mroIn K C (.type "object") = some true ∧ PySem.W.specialIn K (.builtin "object.__class__") "__get__" = some (some (.builtin "getset_descriptor.__get__")) ∧ PySem.W.takesIn K (.builtin "object.__class__") = some true) : InsF K C := ⟨k.1, k.2.2.1, k.2.2.2, k.2.1⟩
end Th
namespace Hd
open PySem PySem.Spec PyProof.Rows L2
theorem facts_ {l : PySem.W.OpenLaw} {w : World} {K : PySem.W.Frag} {h : Heap} {mg : Str → Option Value} {fa_ : Addr} (X : K.In h) (G : h.Ns mainGlobals mg) (hfa : mg "law" = some (.ref fa_)) (c : ∀ x ∈ cks, x.Says w K) :
    ∃ fd : FuncData, (∀ (s : Shared) (v : Value), BindsTo s fd ⟨[v], []⟩ [("_law_script", v)]) ∧ ∀ base : Heap, K.In base → base.Ns mainGlobals mg → Th.FnG l.prog w K mg base 9 fa_ fd ["_law_script"] (Th.spLaw K) := by
  have f0 : Hk.SaysX fa0_ fn0_ ts w K := c ck_f0 (by simp [cks])
  have f1 : Hk.SaysX fa1_ fn1_ [] w K := c ck_f1 (by simp [cks])
  have f2 : Hk.SaysX fa2_ fn2_ [] w K := c ck_f2 (by simp [cks])
  obtain ⟨_, n_MOST_CHARACTERS⟩ := Hk.nsI (f0.fact 51)
  obtain ⟨_, n_NAME_CHARACTERS⟩ := Hk.nsS (f0.fact 52)
  obtain ⟨_, n_MOST_BYTES⟩ := Hk.nsI (f0.fact 53)
  obtain ⟨_, n_LAST_MODE⟩ := Hk.nsI (f0.fact 54)
  obtain ⟨_, n_LAST_TIME⟩ := Hk.nsI (f0.fact 55)
  obtain ⟨_, n_MOST_PIECES⟩ := Hk.nsI (f0.fact 56)
  obtain ⟨_, kat_hF, kget_hF, kcl_hF⟩ := Hk.conS (f0.fact 60)
  obtain ⟨_, kat_hS, kget_hS, kcl_hS⟩ := Hk.conS (f1.fact 1)
  obtain ⟨_, kat_hD, kget_hD, kcl_hD⟩ := Hk.conS (f1.fact 10)
  obtain ⟨_, kat_hY, kget_hY, kcl_hY⟩ := Hk.conS (f1.fact 19)
  obtain ⟨_, kat_hL, kget_hL, kcl_hL⟩ := Hk.conS (f1.fact 28)
  exact Th.all_mk X G hfa
    (Th.defF_of (He.eqO_ok (f0.fact 0)) (f0.def_ 0 (d := Hd.fn_0)))
    (Th.defF_of (He.eqO_ok (f0.fact 1)) (f0.def_ 1 (d := Hd.fn_1)))
    (Th.defF_of (He.eqO_ok (f0.fact 2)) (f0.def_ 2 (d := Hd.fn_2)))
    (Th.defF_of (He.eqO_ok (f0.fact 3)) (f0.def_ 3 (d := Hd.fn_3)))
    (Th.defF_of (He.eqO_ok (f0.fact 4)) (f0.def_ 4 (d := Hd.fn_4)))
    (Th.defF_of (He.eqO_ok (f0.fact 5)) (f0.def_ 5 (d := Hd.fn_5)))
    (Th.defF_of (He.eqO_ok (f0.fact 6)) (f0.def_ 6 (d := Hd.fn_6)))
    (Th.defF_of (He.eqO_ok (f0.fact 7)) (f0.def_ 7 (d := Hd.fn_7)))
    (Th.defF_of (He.eqO_ok (f0.fact 8)) (f0.def_ 8 (d := Hd.fn_8)))
    (Th.defF_of (He.eqO_ok (f0.fact 9)) (f0.def_ 9 (d := Hd.fn_9)))
    (Th.defF_of (He.eqO_ok (f0.fact 10)) (f0.def_ 10 (d := Hd.fn_10)))
    (Th.defF_of (He.eqO_ok (f0.fact 11)) (f0.def_ 11 (d := Hd.fn_11)))
    (Th.defF_of (He.eqO_ok (f0.fact 12)) (f0.def_ 12 (d := Hd.fn_12)))
    (Th.defF_of (He.eqO_ok (f0.fact 13)) (f0.def_ 13 (d := Hd.fn_13)))
    (Th.defF_of (He.eqO_ok (f0.fact 14)) (f0.def_ 14 (d := Hd.fn_14)))
    (Th.defF_of (He.eqO_ok (f0.fact 15)) (f0.def_ 15 (d := Hd.fn_15)))
    (Th.defF_of (He.eqO_ok (f0.fact 16)) (f0.def_ 16 (d := Hd.fn_16)))
    (Th.defF_of (He.eqO_ok (f0.fact 17)) (f0.def_ 17 (d := Hd.fn_17)))
    (Th.defF_of (He.eqO_ok (f0.fact 18)) (f0.def_ 18 (d := Hd.fn_18)))
    (Th.defF_of (He.eqO_ok (f0.fact 19)) (f0.def_ 19 (d := Hd.fn_19)))
    (Th.defF_of (He.eqO_ok (f0.fact 20)) (f0.def_ 20 (d := Hd.fn_20)))
    (Th.defF_of (He.eqO_ok (f0.fact 21)) (f0.def_ 21 (d := Hd.fn_21)))
    (Th.defF_of (He.eqO_ok (f0.fact 22)) (f0.def_ 22 (d := Hd.fn_22)))
    (Th.defF_of (He.eqO_ok (f0.fact 23)) (f0.def_ 23 (d := Hd.fn_23)))
    (Th.defF_of (He.eqO_ok (f0.fact 24)) (f0.def_ 24 (d := Hd.fn_24)))
    (Th.defF_of (He.eqO_ok (f0.fact 25)) (f1.def_ 0 (d := Hd.fn_25)))
    (Th.defF_of (He.eqO_ok (f0.fact 26)) (f1.def_ 1 (d := Hd.fn_26)))
    (Th.defF_of (He.eqO_ok (f0.fact 27)) (f1.def_ 2 (d := Hd.fn_27)))
    (Th.defF_of (He.eqO_ok (f0.fact 28)) (f1.def_ 3 (d := Hd.fn_28)))
    (Th.defF_of (He.eqO_ok (f0.fact 29)) (f1.def_ 4 (d := Hd.fn_29)))
    (Th.defF_of (He.eqO_ok (f0.fact 30)) (f1.def_ 5 (d := Hd.fn_30)))
    (Th.defF_of (He.eqO_ok (f0.fact 31)) (f1.def_ 6 (d := Hd.fn_31)))
    (Th.defF_of (He.eqO_ok (f0.fact 32)) (f1.def_ 7 (d := Hd.fn_32)))
    (Th.defF_of (He.eqO_ok (f0.fact 33)) (f1.def_ 8 (d := Hd.fn_33)))
    (Th.defF_of (He.eqO_ok (f0.fact 34)) (f1.def_ 9 (d := Hd.fn_34)))
    (Th.defF_of (He.eqO_ok (f0.fact 35)) (f1.def_ 10 (d := Hd.fn_35)))
    (Th.defF_of (He.eqO_ok (f0.fact 36)) (f1.def_ 11 (d := Hd.fn_36)))
    (Th.defF_of (He.eqO_ok (f0.fact 37)) (f1.def_ 12 (d := Hd.fn_37)))
    (Th.defF_of (He.eqO_ok (f0.fact 38)) (f1.def_ 13 (d := Hd.fn_38)))
    (Th.defF_of (He.eqO_ok (f0.fact 39)) (f1.def_ 14 (d := Hd.fn_39)))
    (Th.defF_of (He.eqO_ok (f0.fact 40)) (f1.def_ 15 (d := Hd.fn_40)))
    (Th.defF_of (He.eqO_ok (f0.fact 41)) (f1.def_ 16 (d := Hd.fn_41)))
    (Th.defF_of (He.eqO_ok (f0.fact 42)) (f1.def_ 17 (d := Hd.fn_42)))
    (Th.defF_of (He.eqO_ok (f0.fact 43)) (f1.def_ 18 (d := Hd.fn_43)))
    (Th.defF_of (He.eqO_ok (f0.fact 44)) (f1.def_ 19 (d := Hd.fn_44)))
    (Th.defF_of (He.eqO_ok (f0.fact 45)) (f1.def_ 20 (d := Hd.fn_45)))
    (Th.defF_of (He.eqO_ok (f0.fact 46)) (f1.def_ 21 (d := Hd.fn_46)))
    (Th.defF_of (He.eqO_ok (f0.fact 47)) (f1.def_ 22 (d := Hd.fn_47)))
    (Th.defF_of (He.eqO_ok (f0.fact 48)) (f1.def_ 23 (d := Hd.fn_48)))
    (Th.defF_of (He.eqO_ok (f0.fact 49)) (f1.def_ 24 (d := Hd.fn_49)))
    (Th.defF_of (He.eqO_ok (f0.fact 50)) (f2.def_ 0 (d := Hd.fn_50)))
    n_MOST_CHARACTERS
    n_NAME_CHARACTERS
    n_MOST_BYTES
    n_LAST_MODE
    n_LAST_TIME
    n_MOST_PIECES
    (He.eqO_ok (f0.fact 57))
    (He.eqO_ok (f0.fact 58))
    (He.eqO_ok (f0.fact 59))
    (Th.clsF_of (He.eqO_ok (f0.fact 61)) (Hk.clsB_ok (f0.fact 62)) (Hk.mkB_ok (f0.fact 63)) (Hk.kindB_ok (f0.fact 64)) (Hk.kitB_ok (f0.fact 65)) kat_hF kget_hF kcl_hF (f0.fact 66) (Hk.noB_ok (f0.fact 67)))
    (Th.iniF_of (f2.def_ 1 (d := Hd.fn_51)) (f1.fact 0))
    (Th.clsF_of (He.eqO_ok (f1.fact 2)) (Hk.clsB_ok (f1.fact 3)) (Hk.mkB_ok (f1.fact 4)) (Hk.kindB_ok (f1.fact 5)) (Hk.kitB_ok (f1.fact 6)) kat_hS kget_hS kcl_hS (f1.fact 7) (Hk.noB_ok (f1.fact 8)))
    (Th.iniF_of (f2.def_ 2 (d := Hd.fn_52)) (f1.fact 9))
    (Th.clsF_of (He.eqO_ok (f1.fact 11)) (Hk.clsB_ok (f1.fact 12)) (Hk.mkB_ok (f1.fact 13)) (Hk.kindB_ok (f1.fact 14)) (Hk.kitB_ok (f1.fact 15)) kat_hD kget_hD kcl_hD (f1.fact 16) (Hk.noB_ok (f1.fact 17)))
    (Th.iniF_of (f2.def_ 3 (d := Hd.fn_53)) (f1.fact 18))
    (Th.clsF_of (He.eqO_ok (f1.fact 20)) (Hk.clsB_ok (f1.fact 21)) (Hk.mkB_ok (f1.fact 22)) (Hk.kindB_ok (f1.fact 23)) (Hk.kitB_ok (f1.fact 24)) kat_hY kget_hY kcl_hY (f1.fact 25) (Hk.noB_ok (f1.fact 26)))
    (Th.iniF_of (f2.def_ 4 (d := Hd.fn_54)) (f1.fact 27))
    (Th.clsF_of (He.eqO_ok (f1.fact 29)) (Hk.clsB_ok (f1.fact 30)) (Hk.mkB_ok (f1.fact 31)) (Hk.kindB_ok (f1.fact 32)) (Hk.kitB_ok (f1.fact 33)) kat_hL kget_hL kcl_hL (f1.fact 34) (Hk.noB_ok (f1.fact 35)))
    (Th.iniF_of (f2.def_ 5 (d := Hd.fn_55)) (f1.fact 36))
    (Hk.kitB_ok (f1.fact 37))
    (Hk.kitB_ok (f1.fact 38))
    (Hk.kitB_ok (f1.fact 39))
    (Hk.kitB_ok (f1.fact 40))
    (Hk.kitB_ok (f1.fact 41))
    (Hk.kitB_ok (f1.fact 42))
    (Hk.kitB_ok (f1.fact 43))
    (Hk.kitB_ok (f1.fact 44))
    (Hk.kitB_ok (f1.fact 45))
    (Hk.kitB_ok (f1.fact 46))
    (Hk.kitB_ok (f1.fact 47))
    (Hk.kitB_ok (f1.fact 48))
    (Hk.kitB_ok (f1.fact 49))
    (Hk.kitB_ok (f1.fact 50))
    (Hk.kitB_ok (f1.fact 51))
    (Hk.kitB_ok (f1.fact 52))
    (Hk.kitB_ok (f1.fact 53))
    (Hk.kitB_ok (f1.fact 54))
    (Hk.kitB_ok (f1.fact 55))
    (Hk.tupB_ok (f1.fact 56))
    (Hk.tupB_ok (f1.fact 57))
    (Hk.kitB_ok (f1.fact 58))
    (Hk.kitB_ok (f1.fact 59))
    (Hk.kitB_ok (f1.fact 60))
    (Hk.kitB_ok (f1.fact 61))
    (Hk.kitB_ok (f1.fact 62))
    (Hk.kitB_ok (f1.fact 63))
    ⟨He.eqO_ok (f1.fact 64), Hk.clsB_ok (f1.fact 65), Hk.mkB_ok (f1.fact 66), Hk.noB_ok (f1.fact 67)⟩
    (Th.metF_of (Hk.methB_ok (f2.fact 0)) (f2.def_ 6 (d := Hd.fn_56)))
    ⟨He.eqO_ok (f2.fact 1), Hk.clsB_ok (f2.fact 2), Hk.mkB_ok (f2.fact 3), Hk.noB_ok (f2.fact 4)⟩
    (Th.metF_of (Hk.methB_ok (f2.fact 5)) (f2.def_ 7 (d := Hd.fn_57)))
    (Th.metF_of (Hk.methB_ok (f2.fact 6)) (f2.def_ 8 (d := Hd.fn_58)))
    (Th.metF_of (Hk.methB_ok (f2.fact 7)) (f2.def_ 9 (d := Hd.fn_59)))
    (Th.cmF_of (f2.fact 8) (Hk.cmetB_ok (f2.fact 9)) (f2.def_ 10 (d := Hd.fn_60)))
    (Th.metF_of (Hk.methB_ok (f2.fact 10)) (f2.def_ 11 (d := Hd.fn_61)))
    (Th.metF_of (Hk.methB_ok (f2.fact 11)) (f2.def_ 12 (d := Hd.fn_62)))
    (Th.metF_of (Hk.methB_ok (f2.fact 12)) (f2.def_ 13 (d := Hd.fn_63)))
    (Th.metF_of (Hk.methB_ok (f2.fact 13)) (f2.def_ 14 (d := Hd.fn_64)))
    (Th.metF_of (Hk.methB_ok (f2.fact 14)) (f2.def_ 15 (d := Hd.fn_65)))
    (Th.insF_of (Hk.kindB_ok (f2.fact 15)))
    (f2.fact 16)
    (of_decide_eq_true (f2.fact 17))
    (f2.fact 18)
    (of_decide_eq_true (f2.fact 19))
    (f2.fact 20)
    (of_decide_eq_true (f2.fact 21))
    (f2.fact 22)
    (of_decide_eq_true (f2.fact 23))
    (Th.metF_of (Hk.methB_ok (f2.fact 24)) (f2.def_ 16 (d := Hd.fn_66)))
    (Th.eqF_of (Hk.eqB_ok (f2.fact 25)))
    (fun b hb => He.eqO_ok (List.all_eq_true.mp (show ((["isinstance", "bool", "int", "list", "tuple", "all", "bytes", "str", "len", "abs", "range", "any", "sorted", "enumerate", "dict", "max", "min"] : List Str).all fun b => Hk.freeV b K) = true from (f2.fact 26)) b hb))
end Hd
open PySem PySem.W PySem.Calls PyProof.Rows
set_option maxRecDepth 100000 in
set_option maxHeartbeats 0 in
theorem PySem.Challenge.cw_tarhouse_k32_houses_compared_holds : PySem.Challenge.rw_tarhouse_k32_houses_compared.Holds := by
  refine Hd.early_ ?_
  refine Th.walkGE (l := PySem.Challenge.rw_tarhouse_k32_houses_compared) (n := 63) (k := 9) (x := "_law_script") (sp := fun _ K => Th.spLaw K) rfl (by decide) (by kernel_rfl) ⟨rfl, by decide, by decide⟩ ?F (fun _ _ _ a ns hl _ hS => ⟨a, ns, rfl, hS, hl, fun _ => rfl⟩)
  intro w mg fa h Y G hmg0
  obtain ⟨K, KX, c⟩ := Y
  have hmg : mg ("law" : PySem.Str) = some (.ref fa) := by
    have e : (HandSHeadRun.topDef (OpenLaw.row PySem.Challenge.rw_tarhouse_k32_houses_compared).prog 87).name = ("law" : PySem.Str) := by kernel_rfl
    rw [← e]
    exact hmg0
  exact ⟨K, KX, Hd.facts_ KX G hmg c⟩
